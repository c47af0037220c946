/- FrameMoves: whatever cells move, by whatever whole steps: with at most eight wrong or at nought in each codeword the page says what it was to say. -/
import Derived.Test.YtmchelbmeajcnaaGreatMv
import Derived.Test.YtmchelbmeajcnaaGreatWp
import Derived.Test.YtmchelbmeajcnaaGreatSb2
import Derived.Laws.ComplexArith
namespace Go.Proofs.YtmchelbmeajcnaaGreat
open Go.RowKit Go.Gf Go.Fl
set_option linter.unusedVariables false
set_option linter.unusedSimpArgs false
set_option maxRecDepth 20000
attribute [local go_sem ↓] exec_load_tb Cl.quiet_since
attribute [local go_sem] tbAt_ptr tbIn_ptr

attribute [local go_sem] run_store_cpx
theorem infoI : (Tryz.prog.info? 3).map (fun i => (i.zero, i.size, i.bytes)) = some (some (.int .i64 0), 1, 8) := by kernel_rfl
/-- the symbol that a whole point is nearest to -/
theorem slc_whole {x y : Nat} {a b : Int} (hx : Is x (a : Rat)) (hy : Is y (b : Rat)) (ha : -1000000 ≤ a ∧ a ≤ 1000000) (hb : -1000000 ≤ b ∧ b ≤ 1000000) : SlcIs (x, y) (slc a b).toNat := by
  intro w
  have l1 := lev_le a
  have l2 := lev_le b
  have h1 := near_ofP x a (lev a).toNat hx (by omega) (by omega) (by omega) (by unfold lev at *; omega) (by unfold lev at *; omega)
  have h2 := near_ofP y b (lev b).toNat hy (by omega) (by omega) (by omega) (by unfold lev at *; omega) (by unfold lev at *; omega)
  have := slice_any x y _ _ w h1 h2
  refine this.mono fun e w' ⟨he, hw⟩ => ⟨?_, hw⟩
  rw [he, show ((slc a b).toNat : Int) = 32 * ((lev a).toNat : Int) + ((lev b).toNat : Int) by unfold slc; omega]
theorem slc_lt (a b : Int) : 0 ≤ slc a b ∧ slc a b < 1024 := by
  have l1 := lev_le a
  have l2 := lev_le b
  unfold slc
  omega
theorem add_wholeM {x y : Nat} {a b : Int} (hx : Is x (a : Rat)) (hy : Is y (b : Rat)) (ha : -1000000 ≤ a ∧ a ≤ 1000000) (hb : -1000000 ≤ b ∧ b ≤ 1000000) : ∃ r, floatBits .add .f64 x y = some r ∧ Is r ((a + b : Int) : Rat) :=
  add_exact hx hy (Rat.intCast_add a b).symm (rep_int _ (by omega))
/-- points that lie at whole numbers, at most m from nought in each part -/
def Whole (n : Nat) (m : Int) (X : Nat → Nat × Nat) (Z : Nat → Int × Int) : Prop := ∀ j, j < n → Is (X j).1 ((Z j).1 : Rat) ∧ Is (X j).2 ((Z j).2 : Rat) ∧ (-m ≤ (Z j).1 ∧ (Z j).1 ≤ m) ∧ (-m ≤ (Z j).2 ∧ (Z j).2 ≤ m)
theorem whole_pt (S : List Nat) (n : Nat) : Whole n 31 (fun j => ptB (at_ S j)) (fun j => (2 * (((at_ S j : Nat) : Int) / 32 % 32) - 31, 2 * (((at_ S j : Nat) : Int) % 32) - 31)) := fun j _ => by
  refine ⟨L_is _, L_is _, ?_, ?_⟩ <;> dsimp only <;> omega
theorem whole_set {n : Nat} {m : Int} {X : Nat → Nat × Nat} {Z : Nat → Int × Int} (h : Whole n m X Z) {k : Nat} {x y : Nat} {a b : Int} (hx : Is x (a : Rat)) (hy : Is y (b : Rat)) (ha : -(m + 69) ≤ a ∧ a ≤ m + 69) (hb : -(m + 69) ≤ b ∧ b ≤ m + 69) :
    Whole n (m + 69) (fun j => if j = k then (x, y) else X j) (fun j => if j = k then (a, b) else Z j) := fun j hj => by
  by_cases e : j = k
  · simp only [if_pos e]
    exact ⟨hx, hy, ha, hb⟩
  · simp only [if_neg e]
    obtain ⟨h1, h2, h3, h4⟩ := h j hj
    exact ⟨h1, h2, by omega, by omega⟩
theorem whole_at {n : Nat} {m : Int} {X : Nat → Nat × Nat} {Z : Nat → Int × Int} (h : Whole n m X Z) {j : Nat} (hj : j < n) : ∃ x y a b, X j = (x, y) ∧ Z j = (a, b) ∧ Is x ((a : Int) : Rat) ∧ Is y ((b : Int) : Rat) ∧ (-m ≤ a ∧ a ≤ m) ∧ (-m ≤ b ∧ b ≤ m) := by
  obtain ⟨h1, h2, h3, h4⟩ := h j hj
  exact ⟨_, _, _, _, rfl, rfl, h1, h2, h3, h4⟩
theorem add_moreT (a : Addr) (k m : Nat) (hm : m ≠ 0) : a.add (k + m) = ⟨(a.add k).block, (a.add k).off + m, none⟩ := by
  unfold Addr.add
  by_cases hk : k = 0
  · subst hk
    rw [if_neg (by omega), if_pos rfl, Nat.zero_add]
  · rw [if_neg (by omega), if_neg hk]
    simp [Nat.add_assoc]
theorem S6.at_ {w : World} {B : Nat} {A : Option Addr} {ts : List (Int × Int × Int)} {i : Nat} (h : S6 w B A ts) (hi : i < ts.length) : ∃ (a : Addr) (x y z : Int), A = some a ∧ a.block < B ∧ (-32768 ≤ x ∧ x < 32768) ∧ (-32768 ≤ y ∧ y < 32768) ∧ (-32768 ≤ z ∧ z < 32768) ∧ w.cell? (a.add (i * 3)) = some (.int .i16 x) ∧
    w.cell? ⟨(a.add (i * 3)).block, (a.add (i * 3)).off + 1, none⟩ = some (.int .i16 y) ∧ w.cell? ⟨(a.add (i * 3)).block, (a.add (i * 3)).off + 2, none⟩ = some (.int .i16 z) := by
  rcases h.2 with e | ⟨a, e, h1, h2⟩
  · rw [e] at hi; exact absurd hi (by simp)
  · obtain ⟨g0, g1, g2⟩ := h2 i hi
    rw [add_moreT a _ 1 (by decide)] at g1
    rw [add_moreT a _ 2 (by decide)] at g2
    obtain ⟨r0, r1, r2⟩ := h.1 _ (List.getElem_mem hi)
    exact ⟨a, _, _, _, e, h1, r0, r1, r2, g0, g1, g2⟩
set_option maxHeartbeats 16000000 in
theorem moves_law (B P W K : Int) (wB : (Lit.int .i64 B).wf = true) (wP : (Lit.int .i64 P).wf = true) (wW : (Lit.int .i64 W).wf = true) (wK : (Lit.int .i64 K).wf = true)
    (A : Option Addr) (d : List Nat) (c : Nat) (hl : d.length ≤ c) (hc : c ≤ maxLen) (At : Option Addr) (ts : List (Int × Int × Int)) (ct : Nat) (hlt : ts.length ≤ ct) (hct : ct ≤ maxLen) (w : World) (hs : Sb w w.heap.size A d) (hst : S6 w w.heap.size At ts) :
    Calls Tryz.prog 3 #[.agg #[.int .i64 B, .int .i64 P, .int .i64 W, .int .i64 K], .slice A d.length c, .slice At ts.length ct] w fun e w' => e = .returned (.bool true) ∧ Below w.heap.size w w' := by
  have H := Lib.hid hs
  have HT := Lib.hid hst
  have hz := zero27
  have hdm : d.length ≤ 9223372036854775807 := by unfold maxLen at hc; omega
  have htm : ts.length ≤ 9223372036854775807 := by unfold maxLen at hct; omega
  clear hc hs hct hst
  obtain ⟨wb, hwb⟩ : ∃ wb, wb = w.alloc (.cells #[.int .i64 B, .int .i64 P, .int .i64 W, .int .i64 K] 23) := ⟨_, rfl⟩
  have hbb : Below w.heap.size w wb := by rw [hwb]; exact Ge.below_alloc w _
  have hX : Ge.Box wb w.heap.size B P W K := by rw [hwb]; exact Ge.Box.new w B P W K
  go_enter Tryz.func3, Tryz.ntmps3
  go_wp2_with fail
  rw [← hwb]
  clear hwb
  refine (awake_any wb).mono ?_
  rintro e w1 ⟨rfl, hb1⟩
  have hX1 := hX.keep hb1
  have hbw1 := hbb.trans (hb1.mono hbb.size)
  clear hX hbb hb1
  obtain ⟨x1, x2, x3, x4, x5⟩ := id hX1
  have hsm := small_any B P W K w1
  have hmg : Hid (∀ w', Calls Tryz.prog 6 #[.agg #[.int .i64 B, .int .i64 P, .int .i64 W, .int .i64 K]] w' (Ge.Ans w' (.bool (Ge.mayG B P W K)))) := fun w' => Ge.refmay_any B P W K w'
  cases hSM : smB B P W K
  · rw [hSM] at hsm
    replace hsm := Lib.hid hsm
    go_wp2_with (go_at_call 5; (with_reducible refine hsm.out.mono ?_); rintro e w2 ⟨rfl, hb2⟩; have hbw2 := hbw1.trans (hb2.mono hbw1.size); have hX2 := hX1.keep hb2; obtain ⟨y1, y2, y3, y4, y5⟩ := id hX2; have hgm := Lib.hid (hmg.out w2))
    go_ret
    exact ⟨rfl, hbw2⟩
  rw [hSM] at hsm
  replace hsm := Lib.hid hsm
  cases hM : Ge.mayG B P W K
  · rw [hM] at hmg
    go_wp2_with (first | (go_at_call 5; (with_reducible refine hsm.out.mono ?_); rintro e w2 ⟨rfl, hb2⟩; have hbw2 := hbw1.trans (hb2.mono hbw1.size); have hX2 := hX1.keep hb2; obtain ⟨y1, y2, y3, y4, y5⟩ := id hX2; have hgm := Lib.hid (hmg.out w2)) | (go_at_call 6; (with_reducible refine hgm.out.mono ?_); rintro e w3 ⟨rfl, hb3⟩; have hbw3 := hbw2.trans (hb3.mono hbw2.size); have hX3 := hX2.keep hb3; obtain ⟨m1, m2, m3, m4, m5⟩ := id hX3))
    go_ret
    exact ⟨rfl, hbw3⟩
  rw [hM] at hmg
  by_cases hm2 : ts.length ≤ 200
  rotate_left
  · have hmm : decide ((200 : Int) < (ts.length : Int)) = true := decide_eq_true (by omega)
    go_wp2_with (first | (go_at_call 5; (with_reducible refine hsm.out.mono ?_); rintro e w2 ⟨rfl, hb2⟩; have hbw2 := hbw1.trans (hb2.mono hbw1.size); have hX2 := hX1.keep hb2; obtain ⟨y1, y2, y3, y4, y5⟩ := id hX2; have hgm := Lib.hid (hmg.out w2)) | (go_at_call 6; (with_reducible refine hgm.out.mono ?_); rintro e w3 ⟨rfl, hb3⟩; have hbw3 := hbw2.trans (hb3.mono hbw2.size); have hX3 := hX2.keep hb3; obtain ⟨m1, m2, m3, m4, m5⟩ := id hX3))
    go_ret
    exact ⟨rfl, hbw3⟩
  have hmm : decide ((200 : Int) < (ts.length : Int)) = false := decide_eq_false (by omega)
  by_cases hd1 : d.length ≤ 1000
  rotate_left
  · have hdd : decide ((1000 : Int) < (d.length : Int)) = true := decide_eq_true (by omega)
    go_wp2_with (first | (go_at_call 5; (with_reducible refine hsm.out.mono ?_); rintro e w2 ⟨rfl, hb2⟩; have hbw2 := hbw1.trans (hb2.mono hbw1.size); have hX2 := hX1.keep hb2; obtain ⟨y1, y2, y3, y4, y5⟩ := id hX2; have hgm := Lib.hid (hmg.out w2)) | (go_at_call 6; (with_reducible refine hgm.out.mono ?_); rintro e w3 ⟨rfl, hb3⟩; have hbw3 := hbw2.trans (hb3.mono hbw2.size); have hX3 := hX2.keep hb3; obtain ⟨m1, m2, m3, m4, m5⟩ := id hX3))
    go_ret
    exact ⟨rfl, hbw3⟩
  have hdd : decide ((1000 : Int) < (d.length : Int)) = false := decide_eq_false (by omega)
  obtain ⟨W', K', N, rfl, rfl, hN, hW1, hW4, hK1, hK64, h8, h256, hsg, hcg⟩ := mayG_of hM
  obtain ⟨n, hn⟩ : ∃ n, 10 * (N - 8) / 8 = n := ⟨_, rfl⟩
  have hn0 : n ≤ 1000 := by omega
  have hsz : Hid (∀ w', Calls Tryz.prog 7 #[.agg #[.int .i64 B, .int .i64 P, .int .i64 (W' : Int), .int .i64 (K' : Int)]] w' (Ge.Ans w' (.int .i64 (n : Int)))) := fun w' => by
    have := Ge.refsize_any B P W' K' w'
    rwa [hsg, hn] at this
  have hmk : ∀ w' : World, (Instr.makeSlice 24 (.int .i64 (n : Int)) (.int .i64 (n : Int))).run Tryz.prog w' = .ok (.slice (some ⟨w'.heap.size, 0, none⟩) n n) (w'.alloc (.cells (madeCells #[.int .u8 0] n) 5)) :=
    run_make_row' (P := Tryz.prog) 24 5 (.int .u8 0) 1 Tryz.underlying24 info5 rfl .i64 .i64 n (by omega) (by omega)
  go_wp2_with (first
    | (go_at_call 5; (with_reducible refine hsm.out.mono ?_); rintro e w2 ⟨rfl, hb2⟩; have hbw2 := hbw1.trans (hb2.mono hbw1.size); have hX2 := hX1.keep hb2; obtain ⟨y1, y2, y3, y4, y5⟩ := id hX2; have hgm := Lib.hid (hmg.out w2))
    | (go_at_call 6; (with_reducible refine hgm.out.mono ?_); rintro e w3 ⟨rfl, hb3⟩; have hbw3 := hbw2.trans (hb3.mono hbw2.size); have hX3 := hX2.keep hb3; have hs3 := Lib.hid (hsz.out w3); obtain ⟨m1, m2, m3, m4, m5⟩ := id hX3)
    | (go_at_call 7; (with_reducible refine hs3.out.mono ?_); rintro e w4 ⟨rfl, hb4⟩; have hX4 := hX3.keep hb4; have hbw4 := hbw3.trans (hb4.mono hbw3.size); have hA4 := ab_new w4 n; have hB4 := Ge.below_alloc w4 (.cells (madeCells #[.int .u8 0] n) 5))
    | (refine wpList_copy_bytesG rfl (.tmp 44) (.tmp 45) rfl w4.heap.size n rfl A d c rfl hA4 ((H.out.far hbw4).far hB4) ?_))
  intro w5 hA5 hg5
  have hb5 := below_grown hB4 hg5 (Nat.le_refl _)
  have hX5 := hX4.keep hb5
  have hbw5 := hbw4.trans (hb5.mono hbw4.size)
  generalize w4.heap.size = gb at *
  clear hX1 hbw1 hX2 hbw2 hX3 hbw3 hX4 hbw4 x1 x2 x3 x4 x5 y1 y2 y3 y4 y5 m1 m2 m3 m4 m5 hb2 hb3 hb4 hgm hs3 hsm hmg hsz hdd hmk hA4 hB4 hg5 hb5 hmm
  obtain ⟨D, hD⟩ : ∃ D, rm n (at_ d) = D := ⟨_, rfl⟩
  have hDl : D.length = n := by rw [← hD, rm_len]
  have hDb : ∀ x ∈ D, x < 256 := by rw [← hD]; exact rm_mem fun j _ => at_lt H.out.1 (by decide)
  rw [hD] at hA5
  clear hD
  obtain ⟨T, hT⟩ : ∃ T, ts.length = T := ⟨_, rfl⟩
  have hT200 : T ≤ 200 := by omega
  rw [hT]
  replace hT := Lib.hid hT
  clear hm2 hlt htm
  have hB : mkB 1 (T : Int) 5 = true := by
    unfold mkB
    exact decide_eq_true ⟨by decide, by decide, by omega, by omega, by decide, by decide⟩
  have hE := mkE_ok (n := n) hM hB (by rw [hsg, hn])
  obtain ⟨S, hS⟩ : ∃ S, mkW B P (W' : Int) (K' : Int) 1 (T : Int) 5 D = S := ⟨_, rfl⟩
  obtain ⟨k1, l1, q1, e1, e2, e3, hsv, hSe⟩ := mk_okN hN hDb (by rw [hDl]; exact hE)
  rw [hS] at hSe
  obtain rfl : k1 = 1 := by omega
  obtain rfl : T = l1 := Int.ofNat.inj e2
  obtain rfl : q1 = 5 := by omega
  clear e1 e2 e3 hB
  have hL1 : (sayL N 1 T 5 D).length = W' * K' := by rw [say_len (N := N) hsv.2.2.2.2.1 (by omega), hN]
  have hSb : ∀ y ∈ S, y < 1024 := by rw [hSe]; exact pageL_bd hL1 hW1 (say_bd hsv.2.1 hsv.2.2.1 hsv.2.2.2.1)
  obtain ⟨L, hLe⟩ : ∃ L, W' * (K' + 16) = L := ⟨_, rfl⟩
  have hlen : S.length = L := by rw [hSe, ← hLe]; exact pageL_len hL1 hW1
  have hL4 : L ≤ 320 := by rw [← hLe]; exact Nat.mul_le_mul hW4 (show K' + 16 ≤ 80 by omega)
  have hL17 : 17 ≤ L := by rw [← hLe]; exact Nat.mul_le_mul hW1 (show 17 ≤ K' + 16 by omega)
  have hne : S ≠ [] := by intro e; rw [e] at hlen; simp at hlen; omega
  have hrm : Hid (∀ w', Ab w' gb D → Calls Tryz.prog 8 #[.agg #[.int .i64 B, .int .i64 P, .int .i64 (W' : Int), .int .i64 (K' : Int)], .agg #[.int .i64 1, .int .i64 (T : Int), .int .i64 5], .slice (some ⟨gb, 0, none⟩) n n] w' (RowV w' S 0)) := fun w' hb => by
    have := make_rf (B := B) (P := P) (W := W') (K := K') (k := 1) (l := (T : Int)) (q := 5) (c := n) (hb.sb hDb) (by rw [hDl]; omega)
    rw [hDl, hE, hS] at this
    exact this
  obtain ⟨wh, hwh⟩ : ∃ wh, wh = w5.alloc (.cells #[.int .i64 1, .int .i64 (T : Int), .int .i64 5] 30) := ⟨_, rfl⟩
  have hbh : Below w5.heap.size w5 wh := by rw [hwh]; exact Ge.below_alloc w5 _
  have hHh : Hed wh w5.heap.size 1 (T : Int) 5 := by rw [hwh]; exact Hed.new w5 _ _ _
  have hXh := hX5.keep hbh
  have hAh := hA5.keep hbh
  have hbwh := hbw5.trans (hbh.mono hbw5.size)
  have hrmh := Lib.hid (hrm.out wh hAh)
  obtain ⟨x1, x2, x3, x4, x5⟩ := id hXh
  obtain ⟨y1, y2, y3, y4⟩ := id hHh
  rw [hwh] at x2 x3 x4 x5 y2 y3 y4 hrmh
  replace hDl := Lib.hid hDl
  replace hlen := Lib.hid hlen
  replace hLe := Lib.hid hLe
  replace hSe := Lib.hid hSe
  clear hS hL1 hE hX5 hA5 hbw5 hbh hn
  go_wp2_with (first
    | (go_at_call 8; (with_reducible refine hrmh.out.mono ?_); rintro e w6 ⟨v6, rfl, ho6, hb6⟩; rw [← hwh] at hb6; have hX6 := hXh.keep hb6; have hH6 := hHh.keep hb6; have hA6 := hAh.keep hb6; have hbw6 := hbwh.trans (hb6.mono hbwh.size); obtain ⟨A6, c6, rfl, hs6⟩ := ho6.len; have hpt := lawpts_any (c := c6) hs6 (by rw [hlen.out]; omega))
    | (go_at_call 9; (with_reducible refine hpt.mono ?_); rintro e w7 ⟨v7, rfl, ho7, hb7⟩; obtain ⟨gp, c7, rfl, hc7, hgp, hp7⟩ := ho7.pre (by intro e; exact hne (List.map_eq_nil_iff.1 e)); rw [List.length_map, hlen.out] at hp7 ⊢))
  have hgm : gp < w7.heap.size := hp7.lt
  have hgp6 : Hid (w6.heap.size ≤ gp) := hgp
  have hHid6 := Lib.hid hH6
  have hA6' := Lib.hid hA6
  have hbw6' := Lib.hid hbw6
  have hX6' := Lib.hid hX6
  have hSb' := Lib.hid hSb
  have hs6' := Lib.hid hs6
  have hp9 : PreV w7 38 gp L (fun j => cpx (ptB (at_ S j))) := hp7.congr fun j hj => by
    rw [pts_at (by rw [hlen.out]; exact hj)]
  have hwh0 := whole_pt S L
  generalize w5.heap.size = gh at *
  clear hHh hXh hAh hbwh hwh hb6 ho6 ho7 hp7 hs6 x1 x2 x3 x4 x5 y1 y2 y3 y4 hrmh hrm hpt hc7 hne hX6 hH6 hA6 hbw6 hSb hgp
  go_loopw [12] (fun p wr => ∃ (i : Nat) (X : Nat → Nat × Nat) (Z : Nat → Int × Int), i ≤ T ∧ p = .int .i64 (i : Int) ∧ Whole L (31 + 69 * (i : Int)) X Z ∧ PreV wr 38 gp L (fun j => cpx (X j)) ∧ Below w6.heap.size w6 wr) (fun p _ => T - (intOf p).toNat)
  case atStart => exact ⟨0, _, _, Nat.zero_le _, rfl, hwh0, hp9, hb7⟩
  case round =>
    clear hp9 hwh0 hb7
    obtain ⟨i, X, Z, hiT, rfl, hwh, hp, hB⟩ := hrel
    by_cases hlt : i < T
    · have hiI : (i : Int) < (T : Int) := by omega
      have hd : decide (i < T) = true := decide_eq_true hlt
      obtain ⟨a, m0, m1, m2, rfl, hab, hr0, hr1, hr2, hc0, hc1, hc2⟩ := (HT.out.far (hbw6'.out.trans (hB.mono hbw6'.out.size))).at_ (i := i) (by rw [hT.out]; exact hlt)
      obtain ⟨r0, hr0e⟩ : ∃ r0, m0.tmod (L : Int) = r0 := ⟨_, rfl⟩
      have hr0b : -(L : Int) < r0 ∧ r0 < (L : Int) := by
        rw [← hr0e]
        exact ⟨Int.lt_tmod_of_pos _ (by omega), Int.tmod_lt_of_pos _ (by omega)⟩
      obtain ⟨k, hk⟩ : ∃ k : Nat, (r0 + (L : Int)) % (L : Int) = (k : Int) := ⟨((r0 + (L : Int)) % (L : Int)).toNat, (Int.toNat_of_nonneg (Int.emod_nonneg _ (by omega))).symm⟩
      have hkL : k < L := by
        have := Int.emod_lt_of_pos (r0 + (L : Int)) (show (0 : Int) < (L : Int) by omega)
        rw [hk] at this
        omega
      have hk2 : (r0 + (L : Int)).tmod (L : Int) = (k : Int) := by rw [Int.tmod_eq_emod_of_nonneg (by omega)]; exact hk
      obtain ⟨u, hu⟩ : ∃ u, m1.tmod 70 = u := ⟨_, rfl⟩
      obtain ⟨v, hv⟩ : ∃ v, m2.tmod 70 = v := ⟨_, rfl⟩
      have hub : -70 < u ∧ u < 70 := by rw [← hu]; exact ⟨Int.lt_tmod_of_pos _ (by decide), Int.tmod_lt_of_pos _ (by decide)⟩
      have hvb : -70 < v ∧ v < 70 := by rw [← hv]; exact ⟨Int.lt_tmod_of_pos _ (by decide), Int.tmod_lt_of_pos _ (by decide)⟩
      obtain ⟨x, y, za, zb, hXk, hZk, hix, hiy, hza, hzb⟩ := whole_at hwh hkL
      obtain ⟨fu, hfu⟩ : ∃ fu, floatOfInt .f64 u = fu := ⟨_, rfl⟩
      obtain ⟨fv, hfv⟩ : ∃ fv, floatOfInt .f64 v = fv := ⟨_, rfl⟩
      have hiu : Is fu ((u : Int) : Rat) := by rw [← hfu]; exact ofInt_is u (by omega)
      have hiv : Is fv ((v : Int) : Rat) := by rw [← hfv]; exact ofInt_is v (by omega)
      obtain ⟨re, hre, hire⟩ := add_wholeM hix hiu (by omega) (by omega)
      obtain ⟨im, him, hiim⟩ := add_wholeM hiy hiv (by omega) (by omega)
      have hcs : cSumBits .add .f64 x y fu fv = some (re, im) := by unfold cSumBits; rw [hre, him]; rfl
      have hw2 := Lib.hid (whole_set hwh (k := k) hire hiim (by omega) (by omega))
      replace hwh := Lib.hid hwh
      have hpw := Lib.hid hp
      have hBw := Lib.hid hB
      have hXk' := Lib.hid hXk
      clear hp hB hXk hZk hix hiy hza hzb hiu hiv hre him hire hiim
      go_wp2_with fail
      refine Cl.region_way (fun _ => True) 23 [(0, .r), (1, .r), (2, .r), (3, .r), (4, .r), (5, .r), (6, .r), (7, .r), (8, .r), (9, .r), (10, .r), (11, .r), (12, .r), (13, .r), (14, .r), (15, .r), (16, .r), (17, .r), (18, .r), (19, .r), (20, .r), (21, .r), (22, .r), (23, .z)] (by kernel_rfl) (by kernel_rfl) ?_
      intro w8 hk8
      have hkb := Cl.Keeps.below hk8
      have hp8 := hpw.out.below hkb
      have hB8 := hBw.out.trans (hkb.mono hBw.out.size)
      have e0 : ∀ y' : Cl.Since (fun _ => True) w8, y'.w.cell? ⟨gp, k, none⟩ = some (.complex .f64 x y) := fun y' => by
        have := (hp8.below (Cl.Keeps.below y'.keeps)).cell hkL
        rw [hXk'.out] at this
        exact this
      have ha8 : a.block < w8.heap.size := Nat.lt_of_lt_of_le hab hkb.size
      have e1 : ∀ y' : Cl.Since (fun _ => True) w8, y'.w.cell? ⟨(a.add (i * 3)).block, (a.add (i * 3)).off + 1, none⟩ = some (.int .i16 m1) := fun y' => by
        rw [(Cl.Keeps.below y'.keeps).cell (by show (a.add (i * 3)).block < _; rw [add_block]; exact ha8), hkb.cell (by show (a.add (i * 3)).block < _; rw [add_block]; exact hab)]
        exact hc1
      have e2 : ∀ y' : Cl.Since (fun _ => True) w8, y'.w.cell? ⟨(a.add (i * 3)).block, (a.add (i * 3)).off + 2, none⟩ = some (.int .i16 m2) := fun y' => by
        rw [(Cl.Keeps.below y'.keeps).cell (by show (a.add (i * 3)).block < _; rw [add_block]; exact ha8), hkb.cell (by show (a.add (i * 3)).block < _; rw [add_block]; exact hab)]
        exact hc2
      have e3 : ∀ y' : Cl.Since (fun _ => True) w8, (binOp .add 38 (.complex .f64 x y) (.complex .f64 fu fv)).run Tryz.prog y'.w = .ok (.complex .f64 re im) y'.w := fun y' => run_complex_sum y'.w .add (Or.inl rfl) _ .f64 _ _ _ _ re im hcs
      clear hc0 hc1 hc2
      iterate 23 (refine Cl.way_r rfl ?_; go_big_quiet_step (fail); refine wpQuiet_nil ?_)
      clear e0 e1 e2 e3
      have hfr := hp8.frozen k
      have hcc := hp8.cell hkL
      rw [hXk'.out] at hcc
      have hp2 := Lib.hid (hp8.set_ k (.complex .f64 re im))
      have hB2 := Lib.hid (hB8.setCell (p := ⟨gp, k, none⟩) hgp6.out (.complex .f64 re im))
      clear hp8 hB8
      refine Cl.way_z rfl ?_
      go_wp2_with fail
      refine Cl.Calm.normal ?_
      go_wp2_with fail
      refine ⟨⟨i + 1, (fun j => if j = k then (re, im) else X j), (fun j => if j = k then (za + u, zb + v) else Z j), by omega, by go_num, ?_, hp2.out.congr (fun j hj => ?_), hB2.out⟩, by simp [intOf]; omega⟩
      · rw [show 31 + 69 * ((i + 1 : Nat) : Int) = 31 + 69 * (i : Int) + 69 by omega]
        exact hw2.out
      · by_cases e : j = k
        · rw [if_pos e]
          show _ = cpx (if j = k then (re, im) else X j)
          rw [if_pos e]
          rfl
        · rw [if_neg e]
          show _ = cpx (if j = k then (re, im) else X j)
          rw [if_neg e]
    · obtain rfl : i = T := by omega
      have hd : decide (i < i) = false := decide_eq_false (Nat.lt_irrefl _)
      have hXr := hX6'.out.keep hB
      obtain ⟨x1, x2, x3, x4, x5⟩ := id hXr
      have hmi : ∀ w' : World, (Instr.makeSlice 40 (.int .i64 (W' : Int)) (.int .i64 (W' : Int))).run Tryz.prog w' = .ok (.slice (some ⟨w'.heap.size, 0, none⟩) W' W') (w'.alloc (.cells (madeCells #[.int .i64 0] W') 3)) :=
        run_make_row' (P := Tryz.prog) 40 3 (.int .i64 0) 8 Tryz.underlying40 infoI rfl .i64 .i64 W' (by omega) (by omega)
      have hwhole := Lib.hid hwh
      replace hp := Lib.hid hp
      replace hB := Lib.hid hB
      clear hwh hXr
      go_wp2_with fail
      have hmn := nums_new wr W'
      have hba := Ge.below_alloc wr (.cells (madeCells #[.int .i64 0] W') 3)
      have hgpm : gp < wr.heap.size := hp.out.lt
      have hp8 := hp.out.below hba
      have hb8 : Below w6.heap.size w6 (wr.alloc (.cells (madeCells #[.int .i64 0] W') 3)) := hB.out.trans (hba.mono hB.out.size)
      have hgm6 : Hid (w6.heap.size ≤ wr.heap.size) := hB.out.size
      generalize wr.alloc (.cells (madeCells #[.int .i64 0] W') 3) = w8 at *
      generalize wr.heap.size = gm at *
      obtain ⟨fS, hfS⟩ : ∃ fS : Nat → Nat, fS = fun j => (slc (Z j).1 (Z j).2).toNat := ⟨_, rfl⟩
      obtain ⟨f, hf⟩ : ∃ f : Nat → Bool, f = fun j => zP (X j) || decide (fS j ≠ at_ S j) := ⟨_, rfl⟩
      replace hfS := Lib.hid hfS
      replace hf := Lib.hid hf
      have hmn9 : PreV w8 3 gm W' (fun r => .int .i64 ((mcR f W' r 0 : Nat) : Int)) := hmn
      have hW0 : ((W' : Int) == 0) = false := by simp; omega
      clear hmn hba hmi hp hB x1 x2 x3 x4 x5
      go_loopw [14, 16] (fun m p wt => ∃ j : Nat, j ≤ L ∧ p = .int .i64 (j : Int) ∧ m = .int .i64 ((mxR f W' j : Nat) : Int) ∧ PreV wt 3 gm W' (fun r => .int .i64 ((mcR f W' r j : Nat) : Int)) ∧ PreV wt 38 gp L (fun j => cpx (X j)) ∧ Below w6.heap.size w6 wt) (fun _ p _ => L - (intOf p).toNat)
      case atStart => exact ⟨0, Nat.zero_le _, rfl, by rw [mxR_zero]; rfl, hmn9, hp8, hb8⟩
      case round =>
        clear hmn9 hp8 hb8
        obtain ⟨j, hjL, rfl, rfl, hm, hp, hB⟩ := hrel
        by_cases hlt : j < L
        · have hjI : (j : Int) < (L : Int) := by omega
          have hd : decide (j < L) = true := decide_eq_true hlt
          obtain ⟨x, y, za, zb, hXj, hZj, hix, hiy, hza, hzb⟩ := whole_at hwhole.out hlt
          have hfj : f j = (zP (x, y) || decide ((slc za zb).toNat ≠ at_ S j)) := by
            have e1 : fS j = (slc za zb).toNat := by
              rw [hfS.out]
              show (slc (Z j).1 (Z j).2).toNat = _
              rw [hZj]
            have e2 : f j = (zP (X j) || decide (fS j ≠ at_ S j)) := by rw [hf.out]
            rw [e2, hXj]
            simp only [e1]
          have hsl := fun w' => refslice_any hix hiy (by omega) (by omega) w'
          have hcell := hp.cell hlt
          rw [hXj] at hcell
          dsimp only [cpx] at hcell
          obtain ⟨sa, rfl, hab, hca⟩ := (hs6'.out.below hB).at_ (i := j) (by rw [hlen.out]; exact hlt)
          rw [← at_get (by rw [hlen.out]; exact hlt)] at hca
          obtain ⟨sv, hsv'⟩ : ∃ sv, at_ S j = sv := ⟨_, rfl⟩
          rw [hsv'] at hca hfj
          obtain ⟨sl, hsle⟩ : ∃ sl, slc za zb = sl := ⟨_, rfl⟩
          have hsl0 := slc_lt za zb
          rw [hsle] at hfj hsl hsl0
          have hz0 : zP (x, y) = ((FloatKind.f64.format.order x 0 == some .eq) && (FloatKind.f64.format.order y 0 == some .eq)) := rfl
          obtain ⟨b1, h1⟩ : ∃ b, (FloatKind.f64.format.order x 0 == some .eq) = b := ⟨_, rfl⟩
          obtain ⟨b2, h2⟩ : ∃ b, (FloatKind.f64.format.order y 0 == some .eq) = b := ⟨_, rfl⟩
          rw [h1, h2] at hz0
          rw [hz0] at hfj
          have hst : (sl != (sv : Int)) = decide (sl.toNat ≠ sv) := by rw [Bool.eq_iff_iff, bne_iff_ne, decide_eq_true_eq]; omega
          obtain ⟨b3, h3⟩ : ∃ b, decide (sl.toNat ≠ sv) = b := ⟨_, rfl⟩
          rw [h3] at hst hfj
          have hAll : Hid (∀ k, PreV (wr.drewN k) 3 gm W' (fun r => .int .i64 ((mcR f W' r j : Nat) : Int)) ∧ PreV (wr.drewN k) 38 gp L (fun j => cpx (X j)) ∧ Below w6.heap.size w6 (wr.drewN k)) := fun k => ⟨hm.drew k, hp.drew k, below_drewN hB k⟩
          replace hfj := Lib.hid hfj
          clear hm hp hB hXj hZj hix hiy hza hzb hz0 h3 hsv' hsle
          go_wp2_with fail
          go_cut [130] from 108 to 148 (fun cc wx => cc = .bool (f j) ∧ PreV wx 3 gm W' (fun r => .int .i64 ((mcR f W' r j : Nat) : Int)) ∧ PreV wx 38 gp L (fun j => cpx (X j)) ∧ Below w6.heap.size w6 wx)
          case first =>
            cases b1 <;> cases b2 <;> cases b3
            all_goals
              go_quiet ((go_at_call 10; with_reducible exact quiet_left (hsl _)))
              go_wp2_with fail
              go_meet
              first
                | exact ⟨congrArg Value.bool hfj.out.symm, hAll.out _⟩
                | exact ⟨congrArg Value.bool hfj.out.symm, hAll.out 0⟩
          case rest =>
            obtain ⟨rfl, hm, hp, hB⟩ := hcut
            clear hAll hfj hst hsl hsl0 hcell hca hab h1 h2
            cases hfj : f j
            · have hs1 := mcR_same (W := W') hfj
              have hs2 := mxR_same (W := W') hfj
              replace hB := Lib.hid hB
              replace hp := Lib.hid hp
              have hm' := Lib.hid (hm.congr (f' := fun r => .int .i64 ((mcR f W' r (j + 1) : Nat) : Int)) fun r _ => by rw [show mcR f W' r j = mcR f W' r (j + 1) from congrFun hs1 r])
              rw [← hs2]
              clear hm hs1 hs2
              go_wp2_with fail
              exact ⟨⟨j + 1, by omega, by go_num, rfl, hm'.out, hp.out, hB.out⟩, by simp [intOf]; omega⟩
            · obtain ⟨r, hr⟩ : ∃ r, j % W' = r := ⟨_, rfl⟩
              have hrW : r < W' := by rw [← hr]; exact Nat.mod_lt _ (by omega)
              have hrI : (j : Int) % (W' : Int) = (r : Int) := by rw [← hr]; rfl
              have hst := mxR_hit hfj (show 0 < W' by omega)
              have hput := mcR_put (W := W') hfj
              have hcle := mcR_le f W' r j
              rw [hr] at hst hput
              obtain ⟨C, hC⟩ : ∃ C, Hid (mcR f W' r j = C) := ⟨_, Lib.hid rfl⟩
              obtain ⟨M, hMe⟩ : ∃ M, Hid (mxR f W' j = M) := ⟨_, Lib.hid rfl⟩
              have hXr := hX6'.out.keep hB
              have hm2 := hm.set_ r (.int .i64 ((C : Int) + 1))
              have hp2 := hp.other (i := r) (.int .i64 ((C : Int) + 1)) (show gp ≠ gm by omega)
              have hX2 := hXr.other (i := r) (.int .i64 ((C : Int) + 1)) (show w.heap.size ≠ gm by have := hgm6.out; have := hX6'.out.lt; omega)
              have hB2 := hB.setCell (p := ⟨gm, r, none⟩) hgm6.out (.int .i64 ((C : Int) + 1))
              have c2 := hm.cell hrW
              have f2 := hm.frozen r
              have c3 := hm2.cell hrW
              rw [if_pos rfl] at c3
              rw [hC.out] at c2 hcle hst
              rw [hMe.out] at hst ⊢
              obtain ⟨y1, y2, y3, y4, y5⟩ := hXr
              obtain ⟨z1, z2, z3, z4, z5⟩ := hX2
              replace hst := Lib.hid hst
              replace hput := Lib.hid hput
              replace hm2 := Lib.hid hm2
              replace hp2 := Lib.hid hp2
              replace hB2 := Lib.hid hB2
              clear hm hp hB hfj
              go_wp2_with fail
              refine ⟨⟨j + 1, by omega, by go_num, ?_, ?_, hp2.out, hB2.out⟩, by simp [intOf]; omega⟩
              · rw [hst.out]
                congr 1
                split <;> omega
              · refine hm2.out.congr fun t ht => ?_
                have e := congrFun hput.out t
                unfold putN at e
                dsimp only at e
                by_cases hjr : t = r
                · rw [if_pos hjr] at e ⊢
                  rw [← e, hC.out]
                  rfl
                · rw [if_neg hjr] at e ⊢
                  rw [← e]
        · obtain rfl : j = L := by omega
          have hd : decide (j < j) = false := decide_eq_false (Nat.lt_irrefl _)
          have hgbd : Hid (w.heap.size < wr.heap.size) := Nat.lt_of_lt_of_le hX6'.out.lt hB.size
          have hXS := Lib.hid (hX6'.out.keep hB)
          have hxS := Lib.hid hp.cx
          have hHr := Lib.hid (hHid6.out.keep hB)
          have hAr := Lib.hid (hA6'.out.keep hB)
          have hbr := Lib.hid (hbw6'.out.trans (hB.mono hbw6'.out.size))
          obtain ⟨xs, hxs⟩ : ∃ xs, (List.range j).map X = xs := ⟨_, rfl⟩
          obtain ⟨ss, hss⟩ : ∃ ss, rm j fS = ss := ⟨_, rfl⟩
          have hlS : Hid (xs.length = j) := by rw [← hxs]; simp [Hid]
          have hnS : Hid (ss.length = j) := by rw [← hss]; exact rm_len _ _
          have hfSe : ∀ t, fS t = (slc (Z t).1 (Z t).2).toNat := fun t => by rw [hfS.out]
          have hslS : Hid (∀ t, t < xs.length → SlcIs (xA xs t) (at_ ss t)) := fun t ht => by
            have ht' : t < j := by rw [hlS.out] at ht; exact ht
            obtain ⟨x, y, za, zb, hXt, hZt, hix, hiy, hza, hzb⟩ := whole_at hwhole.out ht'
            rw [← hxs, ← hss, range_at ht', at_rm, if_pos ht', hfSe, hXt, hZt]
            exact slc_whole hix hiy (by omega) (by omega)
          have hbS : Hid (∀ y ∈ ss, y < 1024) := by
            rw [← hss]
            exact rm_mem fun t _ => by
              rw [hfSe]
              have := slc_lt (Z t).1 (Z t).2
              omega
          have hoff : Hid (∀ t, t < j → offB (pageL W' (sayL N 1 i 5 D)) ss (zX xs) t = f t) := fun t ht => by
            rw [← hSe.out]
            unfold offB
            rw [show zX xs t = zP (X t) by rw [← hxs]; show zP (xA _ t) = _; rw [range_at ht], hf.out, ← hss, at_rm, if_pos ht]
          rw [hxs] at hxS
          replace hxs := Lib.hid hxs
          replace hss := Lib.hid hss
          obtain ⟨M, hMe⟩ : ∃ M, Hid (mxR f W' j = M) := ⟨_, Lib.hid rfl⟩
          rw [hMe.out]
          have hn6 : j ≤ 100000 := by omega
          have hgb := hgbd
          clear hm hp hB hX6' hHid6 hA6' hbw6' hgp6 hgm6 hfSe hs6'
          go_wp2_with fail
          go_cut [17, 18, 19, 20] from 149 to 157 (fun sm sd sn sf wx => ∃ (k9 l9 q9 n9 : Nat) (d9 : List Nat) (e9 : Nat) (A9 : Option Addr) (c9 g9 : Nat), RdS B P (W' : Int) (K' : Int) xs ss k9 l9 q9 n9 d9 e9 ∧ sm = .pointer (some ⟨g9, 0, none⟩) ∧ Hed wx g9 (k9 : Int) (l9 : Int) (q9 : Int) ∧ sd = .slice A9 d9.length c9 ∧ Sb wx wx.heap.size A9 d9 ∧ sn = .int .i64 (n9 : Int) ∧ sf = .int .i64 (e9 : Int) ∧ Below wr.heap.size wr wx)
          case first =>
            refine Cl.region_tree (fun b => b < wr.heap.size) 14 (.r 1 <| .r 2 <| .b 0 9 (.b 3 9 (.r 4 <| .r 5 <| .r 6 <| .r 7 <| .r 8 <| .c 9 <| .c 10 <| .r 11 <| .r 12 <| .r 13 <| .e) (.c 3 <| .r 4 <| .r 5 <| .r 6 <| .r 7 <| .r 8 <| .c 10 <| .r 11 <| .r 12 <| .r 13 <| .e)) (.c 0 <| .c 3 <| .r 4 <| .r 5 <| .r 6 <| .r 7 <| .r 8 <| .c 10 <| .r 11 <| .r 12 <| .r 13 <| .e)) (by kernel_rfl) (by kernel_rfl) ?_
            intro v0 hk0
            have hbk := Cl.Keeps.below hk0
            have hX0 := hXS.out.keep hbk
            have x0 : ∀ y : Cl.Since (fun b => b < wr.heap.size) v0, y.w.cell? ⟨w.heap.size, 0, none⟩ = some (.int .i64 B) := fun y => (cell_block (y.keeps.block w.heap.size hX0.lt hgb.out)).trans hX0.c0
            have x1 : ∀ y : Cl.Since (fun b => b < wr.heap.size) v0, y.w.cell? ⟨w.heap.size, 1, none⟩ = some (.int .i64 P) := fun y => (cell_block (y.keeps.block w.heap.size hX0.lt hgb.out)).trans hX0.c1
            have x2 : ∀ y : Cl.Since (fun b => b < wr.heap.size) v0, y.w.cell? ⟨w.heap.size, 2, none⟩ = some (.int .i64 (W' : Int)) := fun y => (cell_block (y.keeps.block w.heap.size hX0.lt hgb.out)).trans hX0.c2
            have x3 : ∀ y : Cl.Since (fun b => b < wr.heap.size) v0, y.w.cell? ⟨w.heap.size, 3, none⟩ = some (.int .i64 (K' : Int)) := fun y => (cell_block (y.keeps.block w.heap.size hX0.lt hgb.out)).trans hX0.c3
            iterate 2 (refine Cl.tree_r rfl ?_; go_big_quiet_step (fail); refine wpQuiet_nil ?_)
            clear x0 x1 x2 x3 hX0
            replace hbk := Lib.hid hbk
            have hx0 := Lib.hid (hxS.out.far hbk.out)
            refine Cl.tree_b rfl rfl ?_ ?_
            · go_wp2_with (go_at_call 12; (with_reducible refine (make_any _).mono ?_); rintro e v1 ⟨cs, rfl, hcs, hbp⟩)
              refine Cl.way_on (Cl.Keeps.of_below hbp) ?_
              have hCS := Lib.hid hcs.tab
              have hb1 := Lib.hid (hbk.out.trans (hbp.mono hbk.out.size))
              have hxm := Lib.hid (hx0.out.far hbp)
              clear hcs hbp
              refine Cl.tree_b rfl rfl ?_ ?_
              · have hrd := read_any hCS.out (B := B) (P := P) (W := (W' : Int)) (K := (K' : Int)) (ss := ss) (c := c7) hxm.out (by rw [hlS.out]; omega) (by rw [hnS.out, hlS.out]) hslS.out hbS.out
                rw [hlS.out] at hrd
                replace hrd := Lib.hid hrd
                go_wp2_with (go_at_call 11; (with_reducible refine hrd.out.mono ?_); rintro e v2 ⟨k9, l9, q9, nn, dd, er, hRd, A9, c9, rfl, hc9, hs8, hbp⟩)
                refine Cl.way_on (Cl.Keeps.of_below hbp) ?_
                have hsd := Lib.hid hs8
                replace hRd := Lib.hid hRd
                have hb2 := Lib.hid (hb1.out.trans (hbp.mono hb1.out.size))
                clear hrd hs8 hbp
                refine Cl.tree_r rfl ?_
                go_big_quiet_step (fail)
                refine wpQuiet_nil ?_
                refine Cl.tree_r rfl ?_
                go_big_quiet_step (fail)
                refine wpQuiet_nil ?_
                refine Cl.tree_r rfl ?_
                go_big_quiet_step (fail)
                refine wpQuiet_nil ?_
                refine Cl.tree_r rfl ?_
                go_big_quiet_step (fail)
                refine wpQuiet_nil ?_
                refine Cl.tree_r rfl ?_
                go_big_quiet_step (fail)
                refine wpQuiet_nil ?_
                refine Cl.tree_c rfl ?_
                go_wp2_with fail
                refine Cl.way_on (Cl.Keeps.of_below (Ge.below_alloc _ _)) ?_
                have hF := Lib.hid (Hed.new v2 (k9 : Int) (l9 : Int) (q9 : Int))
                have hG := Ge.below_alloc v2 (.cells #[.int .i64 (k9 : Int), .int .i64 (l9 : Int), .int .i64 (q9 : Int)] 30)
                have hs9 := Lib.hid (hsd.out.far hG)
                have hb9 := Lib.hid (hb2.out.trans (hG.mono hb2.out.size))
                have hkp := Lib.hid (keeps_fold v2 (.cells #[.int .i64 0, .int .i64 0, .int .i64 0] 30) (.cells #[.int .i64 (k9 : Int), .int .i64 (l9 : Int), .int .i64 (q9 : Int)] 30) hb2.out.size)
                refine Cl.tree_c rfl ?_
                go_wp2_with fail
                refine Cl.way_on hkp.out ?_
                refine Cl.tree_r rfl ?_
                go_big_quiet_step (fail)
                refine wpQuiet_nil ?_
                refine Cl.tree_r rfl ?_
                go_big_quiet_step (fail)
                refine wpQuiet_nil ?_
                refine Cl.tree_r rfl ?_
                go_big_quiet_step (fail)
                refine wpQuiet_nil ?_
                refine Cl.tree_e ?_
                go_wp2_with fail
                go_meet
                exact ⟨k9, l9, q9, nn, dd, er, A9, c9, _, hRd.out, rfl, hF.out, rfl, hs9.out, rfl, rfl, hb9.out⟩
              · go_wp2_with fail
                refine Cl.way_on (Cl.Keeps.of_below (Ge.below_alloc _ _)) ?_
                have hHn := Hdo.new v1 0 0 0
                have hAl := Ge.below_alloc v1 (.cells #[.int .i64 0, .int .i64 0, .int .i64 0] 30)
                have hge : Hid (wr.heap.size ≤ v1.heap.size) := hb1.out.size
                have hba := Lib.hid (hb1.out.trans (hAl.mono hb1.out.size))
                have hxa := Lib.hid (hxm.out.far hAl)
                generalize v1.alloc (.cells #[.int .i64 0, .int .i64 0, .int .i64 0] 30) = va1 at *
                have hH1 := Lib.hid hHn
                clear hHn hAl
                refine Cl.tree_c rfl ?_
                have hrd := read_any hCS.out (B := B) (P := P) (W := (W' : Int)) (K := (K' : Int)) (ss := ss) (c := c7) hxa.out (by rw [hlS.out]; omega) (by rw [hnS.out, hlS.out]) hslS.out hbS.out
                rw [hlS.out] at hrd
                replace hrd := Lib.hid hrd
                go_wp2_with (go_at_call 11; (with_reducible refine hrd.out.mono ?_); rintro e v2 ⟨k9, l9, q9, nn, dd, er, hRd, A9, c9, rfl, hc9, hs8, hbp⟩)
                refine Cl.way_on (Cl.Keeps.of_below hbp) ?_
                have hsd := Lib.hid hs8
                replace hRd := Lib.hid hRd
                have hb2 := Lib.hid (hba.out.trans (hbp.mono hba.out.size))
                have hH2 := Lib.hid (hH1.out.keep hbp)
                clear hrd hs8 hbp
                refine Cl.tree_r rfl ?_
                go_big_quiet_step (fail)
                refine wpQuiet_nil ?_
                refine Cl.tree_r rfl ?_
                go_big_quiet_step (fail)
                refine wpQuiet_nil ?_
                refine Cl.tree_r rfl ?_
                go_big_quiet_step (fail)
                refine wpQuiet_nil ?_
                refine Cl.tree_r rfl ?_
                go_big_quiet_step (fail)
                refine wpQuiet_nil ?_
                refine Cl.tree_r rfl ?_
                go_big_quiet_step (fail)
                refine wpQuiet_nil ?_
                have hF := Lib.hid (hH2.out.set_ (k9 : Int) (l9 : Int) (q9 : Int)).hed
                obtain ⟨h1, h2, h3, h4⟩ := hH2.out.hed
                have hfz := hH2.out.frozen
                have hs9 := Lib.hid (hH2.out.sb3 hsd.out (k9 : Int) (l9 : Int) (q9 : Int))
                have hb9 := Lib.hid (below_set3 hb2.out hge.out (.int .i64 (k9 : Int)) (.int .i64 (l9 : Int)) (.int .i64 (q9 : Int)))
                have hkp := Lib.hid (keeps_set3 (w := v2) hge.out (.int .i64 (k9 : Int)) (.int .i64 (l9 : Int)) (.int .i64 (q9 : Int)))
                refine Cl.tree_c rfl ?_
                go_wp2_with fail
                refine Cl.way_on hkp.out ?_
                clear h1 h2 h3 h4 hfz
                refine Cl.tree_r rfl ?_
                go_big_quiet_step (fail)
                refine wpQuiet_nil ?_
                refine Cl.tree_r rfl ?_
                go_big_quiet_step (fail)
                refine wpQuiet_nil ?_
                refine Cl.tree_r rfl ?_
                go_big_quiet_step (fail)
                refine wpQuiet_nil ?_
                refine Cl.tree_e ?_
                go_wp2_with fail
                go_meet
                exact ⟨k9, l9, q9, nn, dd, er, A9, c9, _, hRd.out, rfl, hF.out, rfl, hs9.out, rfl, rfl, hb9.out⟩
            · go_wp2_with fail
              refine Cl.way_on (Cl.Keeps.of_below (Ge.below_alloc _ _)) ?_
              have hHn := Hdo.new v0 0 0 0
              have hAl := Ge.below_alloc v0 (.cells #[.int .i64 0, .int .i64 0, .int .i64 0] 30)
              have hge : Hid (wr.heap.size ≤ v0.heap.size) := hbk.out.size
              have hba := Lib.hid (hbk.out.trans (hAl.mono hbk.out.size))
              have hxa := Lib.hid (hx0.out.far hAl)
              generalize v0.alloc (.cells #[.int .i64 0, .int .i64 0, .int .i64 0] 30) = va0 at *
              have hH0 := Lib.hid hHn
              clear hHn hAl
              refine Cl.tree_c rfl ?_
              go_wp2_with (go_at_call 12; (with_reducible refine (make_any _).mono ?_); rintro e v1 ⟨cs, rfl, hcs, hbp⟩)
              refine Cl.way_on (Cl.Keeps.of_below hbp) ?_
              have hCS := Lib.hid hcs.tab
              have hb1 := Lib.hid (hba.out.trans (hbp.mono hba.out.size))
              have hxm := Lib.hid (hxa.out.far hbp)
              have hH1 := Lib.hid (hH0.out.keep hbp)
              clear hcs hbp
              refine Cl.tree_c rfl ?_
              have hrd := read_any hCS.out (B := B) (P := P) (W := (W' : Int)) (K := (K' : Int)) (ss := ss) (c := c7) hxm.out (by rw [hlS.out]; omega) (by rw [hnS.out, hlS.out]) hslS.out hbS.out
              rw [hlS.out] at hrd
              replace hrd := Lib.hid hrd
              go_wp2_with (go_at_call 11; (with_reducible refine hrd.out.mono ?_); rintro e v2 ⟨k9, l9, q9, nn, dd, er, hRd, A9, c9, rfl, hc9, hs8, hbp⟩)
              refine Cl.way_on (Cl.Keeps.of_below hbp) ?_
              have hsd := Lib.hid hs8
              replace hRd := Lib.hid hRd
              have hb2 := Lib.hid (hb1.out.trans (hbp.mono hb1.out.size))
              have hH2 := Lib.hid (hH1.out.keep hbp)
              clear hrd hs8 hbp
              refine Cl.tree_r rfl ?_
              go_big_quiet_step (fail)
              refine wpQuiet_nil ?_
              refine Cl.tree_r rfl ?_
              go_big_quiet_step (fail)
              refine wpQuiet_nil ?_
              refine Cl.tree_r rfl ?_
              go_big_quiet_step (fail)
              refine wpQuiet_nil ?_
              refine Cl.tree_r rfl ?_
              go_big_quiet_step (fail)
              refine wpQuiet_nil ?_
              refine Cl.tree_r rfl ?_
              go_big_quiet_step (fail)
              refine wpQuiet_nil ?_
              have hF := Lib.hid (hH2.out.set_ (k9 : Int) (l9 : Int) (q9 : Int)).hed
              obtain ⟨h1, h2, h3, h4⟩ := hH2.out.hed
              have hfz := hH2.out.frozen
              have hs9 := Lib.hid (hH2.out.sb3 hsd.out (k9 : Int) (l9 : Int) (q9 : Int))
              have hb9 := Lib.hid (below_set3 hb2.out hge.out (.int .i64 (k9 : Int)) (.int .i64 (l9 : Int)) (.int .i64 (q9 : Int)))
              have hkp := Lib.hid (keeps_set3 (w := v2) hge.out (.int .i64 (k9 : Int)) (.int .i64 (l9 : Int)) (.int .i64 (q9 : Int)))
              refine Cl.tree_c rfl ?_
              go_wp2_with fail
              refine Cl.way_on hkp.out ?_
              clear h1 h2 h3 h4 hfz
              refine Cl.tree_r rfl ?_
              go_big_quiet_step (fail)
              refine wpQuiet_nil ?_
              refine Cl.tree_r rfl ?_
              go_big_quiet_step (fail)
              refine wpQuiet_nil ?_
              refine Cl.tree_r rfl ?_
              go_big_quiet_step (fail)
              refine wpQuiet_nil ?_
              refine Cl.tree_e ?_
              go_wp2_with fail
              go_meet
              exact ⟨k9, l9, q9, nn, dd, er, A9, c9, _, hRd.out, rfl, hF.out, rfl, hs9.out, rfl, rfl, hb9.out⟩
          case rest =>
            obtain ⟨k9, l9, q9, n9, d9, e9, A9, c9, g9, hRd, rfl, hG, rfl, hsb, rfl, rfl, hbc⟩ := hcut
            have hbw := hbr.out.trans (hbc.mono hbr.out.size)
            have hHc := hHr.out.keep hbc
            have hAc := hAr.out.keep hbc
            by_cases h8M : M ≤ 8
            · have hd8 : decide ((8 : Int) < (M : Int)) = false := decide_eq_false (by omega)
              obtain ⟨rfl, rfl, rfl, hn9, rfl, rfl⟩ := rd_few hM hN hsv hlS.out hLe.out.symm hoff.out (by rw [hMe.out]; exact h8M) hRd
              rw [hMe.out] at hn9
              subst hn9
              have hst := str_run hsb c9
              have hst2 := str_run (hAc.sb hDb) n
              rw [hDl.out] at hst hst2 ⊢
              obtain ⟨y1, y2, y3, y4⟩ := id hG
              obtain ⟨z1, z2, z3, z4⟩ := id hHc
              have hseq := str_eq (bstr d9) wc
              have hnn : ((n9 : Int) == (n9 : Int)) = true := by simp
              clear hRd hG hHc hAc hsb hbc
              go_wp2_with fail
              go_ret
              exact ⟨rfl, hbw⟩
            · have hd8 : decide ((8 : Int) < (M : Int)) = true := decide_eq_true (by omega)
              rcases rd_most hRd with he | h8
              · have hee : ((e9 : Int) != 0) = true := by simp [he]
                clear hRd hG hHc hAc hsb hbc
                go_wp2_with fail
                go_ret
                exact ⟨rfl, hbw⟩
              · have hn8 : decide ((n9 : Int) ≤ 8) = true := decide_eq_true (by omega)
                have hn8' : decide (n9 ≤ 8) = true := decide_eq_true h8
                clear hRd hG hHc hAc hsb hbc
                obtain ⟨be, hbe⟩ : ∃ be, ((e9 : Int) != 0) = be := ⟨_, rfl⟩
                cases be
                all_goals
                  go_wp2_with fail
                  go_ret
                  exact ⟨rfl, hbw⟩
end Go.Proofs.YtmchelbmeajcnaaGreat
