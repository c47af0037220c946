/- The laws' words: points of symbols; small geometries. · What is read from a page's points, if few of them are wrong or nought: plain. -/
import Derived.Test.YtmchelbmeajcnaaMl
namespace Go.Proofs.Ytmchelbmeajcnaa
open Go.RowKit Go.Gf Go.Fl
set_option linter.unusedVariables false
set_option linter.unusedSimpArgs false
set_option maxRecDepth 20000
attribute [local go_sem ↓] exec_load_tb Cl.quiet_since
attribute [local go_sem] tbAt_ptr tbIn_ptr

theorem ord_eq_i {x y : Nat} {a b : Int} (hx : Is x (a : Rat)) (hy : Is y (b : Rat)) : (FloatKind.f64.format.order x y == some .eq) = decide (a = b) := by
  rw [ord_eq_b hx hy, decide_eq_decide]
  exact Rat.intCast_inj
theorem is_zero' : Is 0 (((0 : Int) : Int) : Rat) := is_zero
/-- the point of a symbol -/
def ptB (s : Nat) : Nat × Nat := (L ((s : Int) / 32), L (s : Int))
theorem zP_pt (s : Nat) : zP (ptB s) = false := by
  unfold zP ptB
  dsimp only
  rw [ord_eq_i (L_is _) is_zero', ord_eq_i (L_is _) is_zero', Bool.and_eq_false_iff]
  left
  rw [decide_eq_false_iff_not]
  omega
theorem slc_pt {s : Nat} (h : s < 1024) : SlcIs (ptB s) s := by
  intro w
  have h1 := near_L (s / 32) (by omega)
  have h2 := near_L (s % 32) (by omega)
  have e1 : L ((s / 32 : Nat) : Int) = L ((s : Int) / 32) := congrArg L (by omega)
  have e2 : L ((s % 32 : Nat) : Int) = L (s : Int) := L_eq (by omega)
  rw [e1] at h1
  rw [e2] at h2
  have := slice_any _ _ _ _ w h1 h2
  rw [show 32 * ((s / 32 : Nat) : Int) + ((s % 32 : Nat) : Int) = (s : Int) by omega] at this
  exact this
theorem zP_zero : zP (0, 0) = true := by
  unfold zP
  dsimp only
  rw [ord_eq_i is_zero' is_zero', Bool.and_self]
  decide
theorem slc_zero : SlcIs (0, 0) 528 := by
  intro w
  have h := near_ofP 0 0 16 is_zero' (by omega) (by omega) (by omega) (by omega) (by omega)
  exact slice_any _ _ _ _ w h h
attribute [local go_sem] run_store_cpx
set_option maxHeartbeats 4000000 in
theorem lawpts_any {A : Option Addr} {c : Nat} {ss : List Nat} {w : World} (hs : Sl w w.heap.size A ss) (h6 : ss.length ≤ 100000) :
    Calls Try.prog 20 #[.slice A ss.length c] w fun e w' => ∃ v, e = .returned v ∧ OwnC w w' v (ss.map ptB) ∧ Below w.heap.size w w' := by
  have H := Lib.hid hs
  clear hs
  obtain ⟨n, hn⟩ : ∃ n, ss.length = n := ⟨_, rfl⟩
  have HN := Lib.hid hn
  rw [hn] at h6 ⊢
  clear hn
  go_enter Try.func20, Try.ntmps20
  go_wp2_with fail
  go_loopw [3, 4] (fun v p wr => ∃ q : Nat, q ≤ n ∧ p = .int .i64 q ∧ OwnC w wr v ((ss.map ptB).take q) ∧ Below w.heap.size w wr) (fun _ p _ => n - (intOf p).toNat)
  case atStart => exact ⟨0, Nat.zero_le _, rfl, OwnC.nil _ _, Below.refl _ _⟩
  case round =>
    obtain ⟨q, hq, rfl, hO, hB⟩ := hrel
    by_cases hlt : q < n
    · have hqI : (q : Int) < (n : Int) := by omega
      have hd : decide (q < n) = true := decide_eq_true hlt
      have hlt' : q < ss.length := by rw [HN.out]; exact hlt
      obtain ⟨a, rfl, hab, hca⟩ := (H.out.below hB).at_ (i := q) hlt'
      have hx := H.out.1 _ (List.getElem_mem hlt')
      have hst : (ss.map ptB).take (q + 1) = (ss.map ptB).take q ++ [ptB ss[q]] := by
        rw [List.take_add_one, List.getElem?_map, List.getElem?_eq_getElem hlt']
        rfl
      obtain ⟨x, hxx⟩ : ∃ x, ss[q] = x := ⟨_, rfl⟩
      rw [hxx] at hca hx hst
      have hof := Lib.hid (refof_any (x : Int) wr (by omega) (by omega))
      obtain ⟨p1, hp1⟩ : ∃ p, L ((x : Int) / 32) = p := ⟨_, rfl⟩
      obtain ⟨p2, hp2⟩ : ∃ p, L (x : Int) = p := ⟨_, rfl⟩
      have hpt : ptB x = (p1, p2) := by unfold ptB; rw [hp1, hp2]
      rw [hp1, hp2] at hof
      rw [hpt] at hst
      have hO3 := Lib.hid (hO.alloc (.cells #[.complex .f64 p1 p2] 49))
      have hA3 := Ge.below_alloc wr (.cells #[.complex .f64 p1 p2] 49)
      have hB3 := Lib.hid (hB.trans (hA3.mono hB.size))
      have hyc := Lib.hid (show (wr.alloc (.cells #[.complex .f64 p1 p2] 49)).cell? ⟨wr.heap.size, 0, none⟩ = some (.complex .f64 p1 p2) from Ge.cell_of (heap_alloc_new wr _) 0)
      have hlen := Lib.hid (show ((ss.map ptB).take q).length ≤ 1000000 from by rw [List.length_take, List.length_map]; omega)
      clear hO hA3 hB hxx hp1 hp2 hpt
      go_wp2_with (first
        | (go_at_call 45; (with_reducible refine hof.out.mono ?_); rintro e w1 ⟨rfl, rfl⟩)
        | (refine app_cpx (w0 := w) rfl (.tmp 11) (.tmp 17) rfl _ _ rfl hO3.out hB3.out.size wr.heap.size rfl p1 p2 hyc.out hlen.out ?_))
      intro v' w' ho hg'
      rw [← hst] at ho
      have hO4 := Lib.hid ho
      have hB4 := Lib.hid (hB3.out.grown hg' hB3.out.size (OwnC.blk hO3.out))
      clear ho hg' hO3 hB3 hyc
      go_wp2_with fail
      go_roundw
      case rel => exact ⟨q + 1, by omega, by go_num, hO4.out, hB4.out⟩
      case measure => simp [intOf]; omega
    · obtain rfl : q = n := by omega
      have hd : decide (q < q) = false := decide_eq_false (Nat.lt_irrefl _)
      rw [List.take_of_length_le (by rw [List.length_map, HN.out]; exact Nat.le_refl _)] at hO
      replace hO := Lib.hid hO
      replace hB := Lib.hid hB
      go_wp2_with fail
      go_ret
      exact ⟨_, rfl, hO.out, hB.out⟩
/-- is a geometry not great? -/
def smB (B P W K : Int) : Bool := !Ge.mayG B P W K || decide (Ge.celG B P W K ≤ 200)
theorem small_any (B P W K : Int) (w : World) : Calls Try.prog 14 #[.agg #[.int .i64 B, .int .i64 P, .int .i64 W, .int .i64 K]] w (Ge.Ans w (.bool (smB B P W K))) := by
  have hb := Ge.below_alloc w (.cells #[.int .i64 B, .int .i64 P, .int .i64 W, .int .i64 K] 23)
  have hx := Lib.hid (Ge.Box.new w B P W K)
  have hc := Lib.hid (Ge.refmay_any B P W K (w.alloc (.cells #[.int .i64 B, .int .i64 P, .int .i64 W, .int .i64 K] 23)))
  replace hb := Lib.hid hb
  unfold smB
  cases hM : Ge.mayG B P W K
  · rw [hM] at hc
    go_enter Try.func14, Try.ntmps14
    go_wp2_with (go_at_call 21; (with_reducible refine hc.out.mono ?_); rintro e w1 ⟨rfl, hb1⟩; have hb2 := Lib.hid (hb.out.trans (hb1.mono hb.out.size)); clear hb1)
    go_ret
    exact ⟨rfl, hb2.out⟩
  · rw [hM] at hc
    go_enter Try.func14, Try.ntmps14
    go_wp2_with (first
      | (go_at_call 21; (with_reducible refine hc.out.mono ?_); rintro e w1 ⟨rfl, hb1⟩; have hb2 := Lib.hid (hb.out.trans (hb1.mono hb.out.size)); obtain ⟨hlt, c0, c1, c2, c3⟩ := hx.out.keep hb1; have hcc := Lib.hid (Ge.refcells_any B P W K w1); clear hb1)
      | (go_at_call 24; (with_reducible refine hcc.out.mono ?_); rintro e w3 ⟨rfl, hb3⟩; have hb4 := Lib.hid (hb2.out.trans (hb3.mono hb2.out.size))))
    go_ret
    exact ⟨rfl, hb4.out⟩
end Go.Proofs.Ytmchelbmeajcnaa
namespace Go.Proofs.Ytmchelbmeajcnaa
open Go.RowKit Go.Gf Go.Fl
set_option linter.unusedVariables false
set_option linter.unusedSimpArgs false
section
variable {W K N k l q : Nat} {d : List Nat} {S ss : List Nat} {z : Nat → Bool}
theorem sayW_rows (h0 : 0 < W) (hl : S.length = W * K) : sayW W K (fun j => (rowsL W S).getD j []) = S := by
  have e : (List.range W).map (fun j => ((rowsL W S).getD j []).take K) = (rowsL W S).map (List.take K) := by
    apply List.ext_getElem
    · rw [List.length_map, List.length_range, List.length_map, rowsL_len]
    · intro j h1 h2
      have hj : j < W := by simpa using h1
      have hj2 : j < (rowsL W S).length := by rw [rowsL_len]; exact hj
      rw [List.getElem_map, List.getElem_range, List.getElem_map, List.getD_eq_getElem?_getD, List.getElem?_eq_getElem hj2, Option.getD_some]
  unfold sayW
  rw [e, take_rows hl h0]
/-- the marked places: a symbol that is not the page's, or a point that is nought -/
def offB (pl ss : List Nat) (z : Nat → Bool) (i : Nat) : Bool := z i || decide (at_ ss i ≠ at_ pl i)
theorem row_at {n : Nat} (hl : S.length = W * K) (hn : n = K + 16) {j t : Nat} (hj : j < W) (ht : t < n) : at_ ((rowsL W S).getD j []) t = at_ (pageL W S) (t * W + j) := by
  subst hn
  exact (pageL_row hl hj ht).symm
theorem nb_page {n : Nat} (hl : S.length = W * K) (hn : n = K + 16) {j : Nat} (hj : j < W) : nbW W n ss z j ((rowsL W S).getD j []) = bc (fun t => offB (pageL W S) ss z (t * W + j)) n := by
  unfold nbW
  refine bc_congr fun t ht => ?_
  unfold offB rowS
  rw [at_rm, if_pos ht, row_at hl hn hj ht]
theorem good_page {n : Nat} (h0 : 0 < W) (hl : S.length = W * K) (hS : ∀ y ∈ S, y < 1024) (hn : n = K + 16) {j : Nat} (hj : j < W) (h8 : bc (fun t => offB (pageL W S) ss z (t * W + j)) n ≤ 8) : GoodR W n ss z j ((rowsL W S).getD j []) := by
  have hm : (rowsL W S).getD j [] ∈ rowsL W S := getD_mem (by rw [rowsL_len]; exact hj)
  have hlen := rowsL_all hl h0 _ hm
  have hnb := nb_page (ss := ss) (z := z) hl hn hj
  refine ⟨⟨by rw [hlen, rowS_len, hn], rowsL_bd hS _ hm, rowsL_cw hS _ hm, ?_⟩, by rw [hnb]; exact h8⟩
  rw [dl_bc (by rw [hlen, rowS_len, hn]), hlen, ← hn]
  refine Nat.le_trans (bc_mono fun t ht e => ?_) h8
  rw [decide_eq_true_eq] at e
  unfold offB
  rw [Bool.or_eq_true, decide_eq_true_eq]
  right
  intro e2
  apply e
  unfold rowS
  rw [at_rm, if_pos ht, row_at hl hn hj ht, e2]
/-- A PAGE IS READ AS IT WAS MEANT, if in each codeword at most eight symbols are wrong or nought -/
theorem rd_page {B P : Int} {xs : List (Nat × Nat)} (hM : Ge.mayG B P (W : Int) (K : Int) = true) (hN : W * K = N) (hv : sayV N k l q d) (hx : xs.length = W * (K + 16)) (hbk : blkB xs = false)
    (h8 : ∀ j, j < W → bc (fun t => offB (pageL W (sayL N k l q d)) ss (zX xs) (t * W + j)) (K + 16) ≤ 8) {k' l' q' n' er : Nat} {d' : List Nat} (h : RdS B P (W : Int) (K : Int) xs ss k' l' q' n' d' er) :
    k' = k ∧ l' = l ∧ q' = q ∧ n' = mxF (fun j => bc (fun t => offB (pageL W (sayL N k l q d)) ss (zX xs) (t * W + j)) (K + 16)) W ∧ d' = d ∧ er = 0 := by
  obtain ⟨W', K', N', hWe, hKe, hN', hW1, hW4, hK1, hK64, h8', h256, hsg, hcg⟩ := mayG_of hM
  obtain rfl : W = W' := Int.ofNat.inj hWe
  obtain rfl : K = K' := Int.ofNat.inj hKe
  have hNe : N' = N := by rw [← hN', hN]
  have hN8 : 8 < N := by omega
  have hd : d.length = 10 * (N - 8) / 8 := hv.2.2.2.2.1
  have hl : (sayL N k l q d).length = W * K := by rw [say_len hd (by omega), hN]
  have hS := say_bd (N := N) (d := d) hv.2.1 hv.2.2.1 hv.2.2.2.1
  have hgood : ∀ j, j < W → GoodR W (K + 16) ss (zX xs) j ((rowsL W (sayL N k l q d)).getD j []) := fun j hj => good_page hW1 hl hS rfl hj (h8 j hj)
  have hsr := sayW_rows hW1 hl
  obtain ⟨b1, b2, b3, b4, b5⟩ := sayB_say hv
  have huni : ∀ ws : Nat → List Nat, (∀ j, j < W → GoodR W (K + 16) ss (zX xs) j (ws j)) → ∀ j, j < W → ws j = (rowsL W (sayL N k l q d)).getD j [] := fun ws hg j hj => good_unique (by omega) (hg j hj) (hgood j hj)
  cases h with
  | arg h => rw [hM] at h; cases h
  | size _ h2 => rw [hcg, hx] at h2; exact absurd rfl h2
  | none _ _ h3 => rw [hbk] at h3; cases h3
  | data _ _ _ j hj h4 =>
    simp only [Int.toNat_natCast] at hj h4
    exact absurd (hgood j hj) (h4 _)
  | form _ _ _ ws hg h4 =>
    simp only [Int.toNat_natCast] at hg h4
    rw [sayW_congr (huni ws hg), hsr, hN, b1] at h4
    cases h4
  | ok _ _ _ ws hg h4 =>
    simp only [Int.toNat_natCast] at hg h4 ⊢
    have e := huni ws hg
    rw [sayW_congr e, hsr, hN]
    refine ⟨b2, b3, b4, ?_, b5, trivial⟩
    refine mxF_congr fun j hj => ?_
    show nbW W (K + 16) ss (zX xs) j (ws j) = _
    rw [e j hj, nb_page hl rfl hj]
/-- what is answered where something is amiss, and how many wrong at the most where nothing is -/
theorem rd_most {B P W K : Int} {xs : List (Nat × Nat)} {k' l' q' n' er : Nat} {d' : List Nat} (h : RdS B P W K xs ss k' l' q' n' d' er) : er ≠ 0 ∨ n' ≤ 8 := by
  cases h with
  | arg => left; decide
  | size => left; decide
  | none => left; decide
  | data => left; decide
  | form => left; decide
  | ok _ _ _ ws hg => right; exact mxF_le.2 fun j hj => (hg j hj).2
/-- nothing is read where a codeword has more than eight points that are nought -/
theorem rd_torn {B P : Int} {xs : List (Nat × Nat)} (hM : Ge.mayG B P (W : Int) (K : Int) = true) (hx : xs.length = W * (K + 16)) (hbk : blkB xs = false) {j : Nat} (hj : j < W) (h9 : 8 < bc (fun t => zX xs (t * W + j)) (K + 16))
    {k' l' q' n' er : Nat} {d' : List Nat} (h : RdS B P (W : Int) (K : Int) xs ss k' l' q' n' d' er) : er = 4 ∧ n' = 0 := by
  obtain ⟨W', K', N', hWe, hKe, hN', hW1, hW4, hK1, hK64, h8', h256, hsg, hcg⟩ := mayG_of hM
  obtain rfl : W = W' := Int.ofNat.inj hWe
  obtain rfl : K = K' := Int.ofNat.inj hKe
  have hno : ∀ ys, ¬ GoodR W (K + 16) ss (zX xs) j ys := fun ys hg => by
    have := hg.2
    have h2 : bc (fun t => zX xs (t * W + j)) (K + 16) ≤ nbW W (K + 16) ss (zX xs) j ys := bc_mono fun t _ e => by
      show (zX xs (t * W + j) || _) = true
      rw [e]; rfl
    omega
  cases h with
  | arg h => rw [hM] at h; cases h
  | size _ h2 => rw [hcg, hx] at h2; exact absurd rfl h2
  | none _ _ h3 => rw [hbk] at h3; cases h3
  | data => exact ⟨rfl, rfl⟩
  | form _ _ _ ws hg =>
    simp only [Int.toNat_natCast] at hg
    exact absurd (hg j hj) (hno _)
  | ok _ _ _ ws hg =>
    simp only [Int.toNat_natCast] at hg
    exact absurd (hg j hj) (hno _)
theorem rd_none {B P : Int} {xs : List (Nat × Nat)} (hM : Ge.mayG B P (W : Int) (K : Int) = true) (hx : xs.length = W * (K + 16)) (hbk : blkB xs = true) {k' l' q' n' er : Nat} {d' : List Nat} (h : RdS B P (W : Int) (K : Int) xs ss k' l' q' n' d' er) : er = 13 := by
  obtain ⟨W', K', N', hWe, hKe, hN', hW1, hW4, hK1, hK64, h8', h256, hsg, hcg⟩ := mayG_of hM
  obtain rfl : W = W' := Int.ofNat.inj hWe
  obtain rfl : K = K' := Int.ofNat.inj hKe
  cases h with
  | arg h => rw [hM] at h; cases h
  | size _ h2 => rw [hcg, hx] at h2; exact absurd rfl h2
  | none => rfl
  | data _ _ h3 => rw [hbk] at h3; cases h3
  | form _ _ h3 => rw [hbk] at h3; cases h3
  | ok _ _ h3 => rw [hbk] at h3; cases h3
end
/-- the points of symbols are as many, are not nought, and are nearest to those symbols -/
theorem pts_at {ss : List Nat} {i : Nat} (h : i < ss.length) : xA (ss.map ptB) i = ptB (at_ ss i) := by
  rw [xA_get (by rw [List.length_map]; exact h), List.getElem_map, at_get h]
theorem pts_slc {ss : List Nat} (hb : ∀ y ∈ ss, y < 1024) : ∀ i, i < (ss.map ptB).length → SlcIs (xA (ss.map ptB) i) (at_ ss i) := fun i hi => by
  rw [List.length_map] at hi
  rw [pts_at hi]
  exact slc_pt (at_lt' hb i)
theorem pts_z {ss : List Nat} {i : Nat} (h : i < ss.length) : zX (ss.map ptB) i = false := by
  show zP (xA (ss.map ptB) i) = false
  rw [pts_at h]; exact zP_pt _
theorem pts_blk {ss : List Nat} (h : ss ≠ []) : blkB (ss.map ptB) = false := by
  have h0 : 0 < ss.length := List.length_pos_iff.2 h
  rw [Bool.eq_false_iff]
  intro e
  have := blkB_true.1 e 0 (by rw [List.length_map]; exact h0)
  rw [pts_at h0, zP_pt] at this
  cases this
/-- a page's own points are read as it was made -/
theorem rd_own {B P : Int} {W K N k l q : Nat} {d : List Nat} (hM : Ge.mayG B P (W : Int) (K : Int) = true) (hN : W * K = N) (hv : sayV N k l q d) {k' l' q' n' er : Nat} {d' : List Nat}
    (h : RdS B P (W : Int) (K : Int) ((pageL W (sayL N k l q d)).map ptB) (pageL W (sayL N k l q d)) k' l' q' n' d' er) : k' = k ∧ l' = l ∧ q' = q ∧ n' = 0 ∧ d' = d ∧ er = 0 := by
  obtain ⟨W', K', N', hWe, hKe, hN', hW1, hW4, hK1, hK64, h8', h256, hsg, hcg⟩ := mayG_of hM
  obtain rfl : W = W' := Int.ofNat.inj hWe
  obtain rfl : K = K' := Int.ofNat.inj hKe
  have hd : d.length = 10 * (N - 8) / 8 := hv.2.2.2.2.1
  have hl : (sayL N k l q d).length = W * K := by rw [say_len hd (by omega), hN]
  have hpl := pageL_len hl hW1
  have hz : ∀ j, j < W → bc (fun t => offB (pageL W (sayL N k l q d)) (pageL W (sayL N k l q d)) (zX ((pageL W (sayL N k l q d)).map ptB)) (t * W + j)) (K + 16) = 0 := fun j hj => bc_zero fun t ht => by
    unfold offB
    rw [pts_z (by rw [hpl]; exact place_lt hj ht)]
    simp
  have hne : pageL W (sayL N k l q d) ≠ [] := by
    intro e
    rw [e] at hpl
    have : 1 ≤ W * (K + 16) := Nat.mul_le_mul hW1 (show 1 ≤ K + 16 by omega)
    simp at hpl
    omega
  obtain ⟨e1, e2, e3, e4, e5, e6⟩ := rd_page hM hN hv (by rw [List.length_map, hpl]) (pts_blk hne) (fun j hj => by rw [hz j hj]; omega) h
  refine ⟨e1, e2, e3, ?_, e5, e6⟩
  rw [e4, mxF_congr (h := fun _ => 0) hz, mxF_zero]
end Go.Proofs.Ytmchelbmeajcnaa
