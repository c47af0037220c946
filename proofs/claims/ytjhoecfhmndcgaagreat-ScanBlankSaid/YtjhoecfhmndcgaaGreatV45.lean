/- What is read from a chip's pages, by their points, which are whole numbers: plain, but for point.Slice. · SCANS, BY THEIR CONTRACTS ALONE: what scan's functions answer; the laws of chapter 18 are proved for whatever has it. · awake of law 18, for whatever has scan's contracts. · What the laws of chapter 18 do to a device: pages programmed, a block wiped: plain; geometries in a block. -/
import Derived.Test.YtjhoecfhmndcgaaGreatV36
import Derived.Test.YtjhoecfhmndcgaaGreatV44
import Derived.Test.YtjhoecfhmndcgaaGreatV07
import Derived.Test.YtjhoecfhmndcgaaGreatV33
import Derived.Test.YtjhoecfhmndcgaaGreatV06
import Derived.Deep.Cut
namespace Go.Proofs.YtjhoecfhmndcgaaGreat.Sc
open Go.RowKit Go.Gf Go.Fl
set_option linter.unusedVariables false
set_option linter.unusedSimpArgs false
/-- the symbol that a whole point is nearest to -/
theorem slc_whole {x y : Nat} {a b : Int} (hx : Is x (a : Rat)) (hy : Is y (b : Rat)) (ha : -1000000 ≤ a ∧ a ≤ 1000000) (hb : -1000000 ≤ b ∧ b ≤ 1000000) : SlcIs (x, y) (slc a b).toNat := by
  intro w
  have l1 := lev_le a
  have l2 := lev_le b
  have h1 := near_ofP x a (lev a).toNat hx (by omega) (by omega) (by omega) (by unfold lev at *; omega) (by unfold lev at *; omega)
  have h2 := near_ofP y b (lev b).toNat hy (by omega) (by omega) (by omega) (by unfold lev at *; omega) (by unfold lev at *; omega)
  have := slice_any x y _ _ w h1 h2
  refine this.mono fun e w' ⟨he, hw⟩ => ⟨?_, hw⟩
  rw [he, show ((slc a b).toNat : Int) = 32 * ((lev a).toNat : Int) + ((lev b).toNat : Int) by unfold slc; omega]
theorem slc_lt (a b : Int) : 0 ≤ slc a b ∧ slc a b < 1024 := by
  have l1 := lev_le a
  have l2 := lev_le b
  unfold slc
  omega
/-- the words xs are the points ps -/
def RepX (ps : List (Int × Int)) (xs : List (Nat × Nat)) : Prop := xs.length = ps.length ∧ ∀ i, i < ps.length → Is (xA xs i).1 ((ptAt ps i).1 : Rat) ∧ Is (xA xs i).2 ((ptAt ps i).2 : Rat)
/-- their symbols -/
def ssOf (ps : List (Int × Int)) : List Nat := ps.map fun q => (slc q.1 q.2).toNat
theorem ssOf_len (ps : List (Int × Int)) : (ssOf ps).length = ps.length := List.length_map _
theorem ssOf_lt (ps : List (Int × Int)) : ∀ y ∈ ssOf ps, y < 1024 := fun y hy => by
  unfold ssOf at hy
  obtain ⟨q, _, rfl⟩ := List.mem_map.1 hy
  have := slc_lt q.1 q.2
  omega
theorem ssOf_at {ps : List (Int × Int)} {i : Nat} (h : i < ps.length) : at_ (ssOf ps) i = (slc (ptAt ps i).1 (ptAt ps i).2).toNat := by
  have h' : i < (ssOf ps).length := by rw [ssOf_len]; exact h
  rw [at_get h']
  unfold ptAt
  rw [List.getD_eq_getElem?_getD, List.getElem?_eq_getElem h]
  show ((ps.map fun q => (slc q.1 q.2).toNat)[i]'(by rw [List.length_map]; exact h)) = _
  rw [List.getElem_map]; rfl
/-- all points within reach -/
def Fin (ps : List (Int × Int)) : Prop := ∀ i, i < ps.length → (-1000000 ≤ (ptAt ps i).1 ∧ (ptAt ps i).1 ≤ 1000000) ∧ (-1000000 ≤ (ptAt ps i).2 ∧ (ptAt ps i).2 ≤ 1000000)
theorem rep_slc {ps : List (Int × Int)} {xs : List (Nat × Nat)} (h : RepX ps xs) (hf : Fin ps) : ∀ i, i < xs.length → SlcIs (xA xs i) (at_ (ssOf ps) i) := fun i hi => by
  have hi' : i < ps.length := by rw [← h.1]; exact hi
  obtain ⟨h1, h2⟩ := h.2 i hi'
  rw [ssOf_at hi']
  exact slc_whole h1 h2 (hf i hi').1 (hf i hi').2
theorem rep_z {ps : List (Int × Int)} {xs : List (Nat × Nat)} (h : RepX ps xs) {i : Nat} (hi : i < ps.length) : zX xs i = decide (ptAt ps i = (0, 0)) := by
  obtain ⟨h1, h2⟩ := h.2 i hi
  show zP (xA xs i) = _
  unfold zP
  have k : ∀ (x : Nat) (a : Int), Is x (a : Rat) → (FloatKind.f64.format.order x 0 == some Ordering.eq) = decide (a = 0) := fun x a hx => by
    rcases Int.lt_trichotomy a 0 with ha | ha | ha
    · have e : FloatKind.f64.format.order x 0 = some Ordering.lt := order_lt hx is_zero' (Rat.intCast_lt_intCast.2 ha)
      rw [e, decide_eq_false (by omega)]; rfl
    · subst ha
      have e : FloatKind.f64.format.order x 0 = some Ordering.eq := order_eq hx is_zero' rfl
      rw [e]; rfl
    · have e : FloatKind.f64.format.order x 0 = some Ordering.gt := order_gt hx is_zero' (Rat.intCast_lt_intCast.2 ha)
      rw [e, decide_eq_false (by omega)]; rfl
  rw [k _ _ h1, k _ _ h2, Bool.eq_iff_iff]
  simp [Prod.ext_iff]
theorem rep_blk {ps : List (Int × Int)} {xs : List (Nat × Nat)} (h : RepX ps xs) : blkB xs = true ↔ ∀ i, i < ps.length → ptAt ps i = (0, 0) := by
  rw [blkB_true]
  refine ⟨fun e i hi => ?_, fun e i hi => ?_⟩
  · have := e i (by rw [h.1]; exact hi)
    rw [show zP (xA xs i) = zX xs i from rfl, rep_z h hi] at this
    exact of_decide_eq_true this
  · have hi' : i < ps.length := by rw [← h.1]; exact hi
    rw [show zP (xA xs i) = zX xs i from rfl, rep_z h hi']
    exact decide_eq_true (e i hi')
/-- what a page is: blank, not to be read, or what it says: kind, host page, sequence, how many wrong -/
inductive Kd where
  | blank
  | torn
  | said (k l q n : Nat)
def KdIs (B P W K : Int) (ps : List (Int × Int)) : Kd → Prop
  | .blank => Fin ps ∧ ∀ i, i < ps.length → ptAt ps i = (0, 0)
  | .torn => Fin ps ∧ (∃ i, i < ps.length ∧ ptAt ps i ≠ (0, 0)) ∧ ∀ xs, RepX ps xs → ∀ k l q n d er, RdS B P W K xs (ssOf ps) k l q n d er → er ≠ 0
  | .said k' l' q' n' => Fin ps ∧ (∃ i, i < ps.length ∧ ptAt ps i ≠ (0, 0)) ∧ ∀ xs, RepX ps xs → ∀ k l q n d er, RdS B P W K xs (ssOf ps) k l q n d er → er = 0 ∧ k = k' ∧ l = l' ∧ q = q' ∧ n = n'
/-- the first kk cells of a page's symbols were programmed, the rest is blank -/
def halfP (ss : List Nat) (kk : Nat) : List (Int × Int) := (List.range ss.length).map fun i => if kk ≤ i then (0, 0) else pt (at_ ss i)
theorem halfP_len (ss : List Nat) (kk : Nat) : (halfP ss kk).length = ss.length := by unfold halfP; simp
theorem halfP_at {ss : List Nat} {kk i : Nat} (h : i < ss.length) : ptAt (halfP ss kk) i = if kk ≤ i then (0, 0) else pt (at_ ss i) := by
  unfold halfP ptAt
  simp [List.getD_eq_getElem?_getD, h]
theorem halfP_fin (ss : List Nat) (kk : Nat) : Fin (halfP ss kk) := fun i hi => by
  rw [halfP_len] at hi
  rw [halfP_at hi]
  split
  · exact ⟨by omega, by omega⟩
  · have := pt_range (at_ ss i); omega
theorem halfP_z {ss : List Nat} {kk i : Nat} (h : i < ss.length) : decide (ptAt (halfP ss kk) i = (0, 0)) = decide (kk ≤ i) := by
  rw [halfP_at h]
  split
  · rename_i h1; simp [h1]
  · rename_i h1; rw [decide_eq_false (pt_odd _), decide_eq_false h1]
theorem halfP_s {ss : List Nat} {kk i : Nat} (hb : ∀ y ∈ ss, y < 1024) (h : i < ss.length) (hk : i < kk) : at_ (ssOf (halfP ss kk)) i = at_ ss i := by
  rw [ssOf_at (by rw [halfP_len]; exact h), halfP_at h, if_neg (by omega), slc_ptY (at_lt' hb i)]
  simp
/-- how many of n in a row are c or more -/
theorem bc_from (c : Nat) : ∀ n, bc (fun q => decide (c ≤ q)) n = n - c
  | 0 => by simp [bc]
  | n + 1 => by
    show bc (fun q => decide (c ≤ q)) n + (if decide (c ≤ n) = true then 1 else 0) = _
    rw [bc_from c n]
    by_cases h : c ≤ n
    · simp only [h, decide_true, if_true]; omega
    · simp only [h, decide_false, Bool.false_eq_true, if_false]; omega
theorem half_row {W kk j n : Nat} (hj : j < W) : bc (fun t => decide (kk ≤ t * W + j)) n = n - (kk - j + W - 1) / W := by
  rw [← bc_from]
  refine bc_congr fun t _ => ?_
  rw [decide_eq_decide]
  have hW : 0 < W := by omega
  rw [Nat.div_le_iff_le_mul_add_pred hW]
  rw [Nat.mul_comm W t]
  generalize t * W = z
  omega
/-- the worst codeword of such a page has as many blank -/
theorem half_worst {W kk n : Nat} (hW : 0 < W) (hk : kk ≤ W * n) : mxF (fun j => bc (fun t => decide (kk ≤ t * W + j)) n) W = (W * n - kk + W - 1) / W := by
  rw [mxF_congr (h := fun j => n - (kk - j + W - 1) / W) fun j hj => half_row hj]
  have e : (W * n - kk + W - 1) / W = n - kk / W := by
    have h1 : W * n - kk + W - 1 = W * (n - kk / W) + (W - 1 - kk % W) := by
      have h2 := Nat.div_add_mod kk W
      have h3 := Nat.mod_lt kk hW
      have h4 : kk / W ≤ n := Nat.div_le_of_le_mul hk
      rw [Nat.mul_sub]
      have h5 : W * (kk / W) ≤ W * n := Nat.mul_le_mul_left W h4
      omega
    rw [h1, Nat.mul_add_div hW, Nat.div_eq_of_lt (show W - 1 - kk % W < W by omega), Nat.add_zero]
  rw [e]
  refine Nat.le_antisymm ?_ ?_
  · refine mxF_le.2 fun j hj => ?_
    have : kk / W ≤ (kk - j + W - 1) / W := Nat.div_le_div_right (by omega)
    omega
  · have h1 : ∀ m, (∀ j, j < W → n - (kk - j + W - 1) / W ≤ m) → n - kk / W ≤ m := fun m hm => by
      have hj := hm (W - 1) (by omega)
      have e2 : (kk - (W - 1) + W - 1) / W = kk / W := by
        by_cases h : kk < W - 1
        · rw [show kk - (W - 1) + W - 1 = W - 1 by omega, Nat.div_eq_of_lt (show W - 1 < W by omega), Nat.div_eq_of_lt (show kk < W by omega)]
        · rw [show kk - (W - 1) + W - 1 = kk by omega]
      rw [e2] at hj
      exact hj
    exact h1 _ (mxF_le.1 (Nat.le_refl _))
section
variable {B P : Int} {W K N k l q : Nat} {d : List Nat}
theorem said_len (hM : Ge.mayG B P (W : Int) (K : Int) = true) (hN : W * K = N) (hv : sayV N k l q d) : (pageL W (sayL N k l q d)).length = W * (K + 16) ∧ (∀ y ∈ pageL W (sayL N k l q d), y < 1024) ∧ 0 < W ∧ W * (K + 16) ≤ 320 := by
  obtain ⟨W', K', N', hWe, hKe, hN', hW1, hW4, hK1, hK64, h8', h256, hsg, hcg⟩ := mayG_of hM
  obtain rfl : W = W' := Int.ofNat.inj hWe
  obtain rfl : K = K' := Int.ofNat.inj hKe
  have hl : (sayL N k l q d).length = W * K := by rw [say_len hv.2.2.2.2.1 (by omega), hN]
  refine ⟨pageL_len hl hW1, pageL_bd hl hW1 (say_bd hv.2.1 hv.2.2.1 hv.2.2.2.1), hW1, ?_⟩
  have : W * (K + 16) ≤ 4 * 80 := Nat.mul_le_mul hW4 (by omega)
  omega
/-- A PAGE OF WHICH THE FIRST kk CELLS WERE PROGRAMMED: with at most eight blank in each codeword it says what it was to say -/
theorem kd_half (hM : Ge.mayG B P (W : Int) (K : Int) = true) (hN : W * K = N) (hv : sayV N k l q d) {kk : Nat} (hk0 : 0 < kk) (hk : kk ≤ W * (K + 16)) (h8 : (W * (K + 16) - kk + W - 1) / W ≤ 8) :
    KdIs B P W K (halfP (pageL W (sayL N k l q d)) kk) (.said k l q ((W * (K + 16) - kk + W - 1) / W)) := by
  obtain ⟨hl, hb, hW, _⟩ := said_len hM hN hv
  have hn0 : 0 < W * (K + 16) := by omega
  refine ⟨halfP_fin _ _, ⟨0, by rw [halfP_len, hl]; exact hn0, ?_⟩, fun xs hx k' l' q' n' d' er hR => ?_⟩
  · rw [halfP_at (by rw [hl]; exact hn0), if_neg (by omega)]; exact pt_odd _
  · have hoff : ∀ i, i < W * (K + 16) → offB (pageL W (sayL N k l q d)) (ssOf (halfP (pageL W (sayL N k l q d)) kk)) (zX xs) i = decide (kk ≤ i) := fun i hi => by
      have hi' : i < (pageL W (sayL N k l q d)).length := by rw [hl]; exact hi
      unfold offB
      rw [rep_z hx (by rw [halfP_len]; exact hi'), halfP_z hi']
      by_cases h : kk ≤ i
      · simp [h]
      · rw [halfP_s hb hi' (by omega)]; simp
    have hrow : ∀ j, j < W → bc (fun t => offB (pageL W (sayL N k l q d)) (ssOf (halfP (pageL W (sayL N k l q d)) kk)) (zX xs) (t * W + j)) (K + 16) = bc (fun t => decide (kk ≤ t * W + j)) (K + 16) := fun j hj => bc_congr fun t ht => hoff _ (place_lt hj ht)
    have hworst := half_worst (n := K + 16) hW hk
    have hbk : blkB xs = false := by
      rw [Bool.eq_false_iff]
      intro e
      have := (rep_blk hx).1 e 0 (by rw [halfP_len, hl]; exact hn0)
      rw [halfP_at (by rw [hl]; exact hn0), if_neg (by omega)] at this
      exact pt_odd _ this
    obtain ⟨e1, e2, e3, e4, e5, e6⟩ := rd_page hM hN hv (by rw [hx.1, halfP_len, hl]) hbk (fun j hj => by rw [hrow j hj]; exact mxF_le.1 (by rw [hworst]; exact h8) j hj) hR
    exact ⟨e6, e1, e2, e3, by rw [e4, mxF_congr hrow, hworst]⟩
/-- .. with more it is not to be read -/
theorem kd_torn (hM : Ge.mayG B P (W : Int) (K : Int) = true) (hN : W * K = N) (hv : sayV N k l q d) {kk : Nat} (hk0 : 0 < kk) (hk : kk ≤ W * (K + 16)) (h8 : 8 < (W * (K + 16) - kk + W - 1) / W) :
    KdIs B P W K (halfP (pageL W (sayL N k l q d)) kk) .torn := by
  obtain ⟨hl, hb, hW, _⟩ := said_len hM hN hv
  have hn0 : 0 < W * (K + 16) := by omega
  refine ⟨halfP_fin _ _, ⟨0, by rw [halfP_len, hl]; exact hn0, ?_⟩, fun xs hx k' l' q' n' d' er hR => ?_⟩
  · rw [halfP_at (by rw [hl]; exact hn0), if_neg (by omega)]; exact pt_odd _
  · have hz : ∀ i, i < W * (K + 16) → zX xs i = decide (kk ≤ i) := fun i hi => by
      have hi' : i < (pageL W (sayL N k l q d)).length := by rw [hl]; exact hi
      rw [rep_z hx (by rw [halfP_len]; exact hi'), halfP_z hi']
    have hworst := half_worst (n := K + 16) hW hk
    have hbk : blkB xs = false := by
      rw [Bool.eq_false_iff]
      intro e
      have := (rep_blk hx).1 e 0 (by rw [halfP_len, hl]; exact hn0)
      rw [halfP_at (by rw [hl]; exact hn0), if_neg (by omega)] at this
      exact pt_odd _ this
    have hex : ∃ j, j < W ∧ 8 < bc (fun t => decide (kk ≤ t * W + j)) (K + 16) := by
      rcases Classical.em (∃ j, j < W ∧ 8 < bc (fun t => decide (kk ≤ t * W + j)) (K + 16)) with h | h
      · exact h
      · have : mxF (fun j => bc (fun t => decide (kk ≤ t * W + j)) (K + 16)) W ≤ 8 := mxF_le.2 fun j hj => by
          rcases Nat.lt_or_ge 8 (bc (fun t => decide (kk ≤ t * W + j)) (K + 16)) with h2 | h2
          · exact absurd ⟨j, hj, h2⟩ h
          · exact h2
        omega
    obtain ⟨j, hj, h9⟩ := hex
    have := (rd_torn hM (by rw [hx.1, halfP_len, hl]) hbk hj (by rw [show bc (fun t => zX xs (t * W + j)) (K + 16) = bc (fun t => decide (kk ≤ t * W + j)) (K + 16) from bc_congr fun t ht => hz _ (place_lt hj ht)]; exact h9) hR).1
    omega
/-- a page that was programmed whole says what it was to say, nothing wrong -/
theorem kd_whole (hM : Ge.mayG B P (W : Int) (K : Int) = true) (hN : W * K = N) (hv : sayV N k l q d) : KdIs B P W K (halfP (pageL W (sayL N k l q d)) (W * (K + 16))) (.said k l q 0) := by
  obtain ⟨hl, hb, hW, _⟩ := said_len hM hN hv
  have h0 : (W * (K + 16) - W * (K + 16) + W - 1) / W = 0 := by rw [Nat.sub_self, Nat.zero_add]; exact Nat.div_eq_of_lt (by omega)
  have := kd_half hM hN hv (kk := W * (K + 16)) (Nat.mul_pos hW (by omega)) (Nat.le_refl _) (by rw [h0]; omega)
  rwa [h0] at this
theorem kd_blank (n : Nat) (Bq Pq Wq Kq : Int) : KdIs Bq Pq Wq Kq (List.replicate n (0, 0)) .blank := by
  have h : ∀ i, i < (List.replicate n ((0 : Int), (0 : Int))).length → ptAt (List.replicate n (0, 0)) i = (0, 0) := fun i hi => by
    have hi' : i < n := by simpa using hi
    unfold ptAt
    simp [List.getD_eq_getElem?_getD, hi']
  exact ⟨fun i hi => by rw [h i hi]; exact ⟨by omega, by omega⟩, h⟩
end
end Go.Proofs.YtjhoecfhmndcgaaGreat.Sc
namespace Go.Proofs.YtjhoecfhmndcgaaGreat.Sc
open Go.RowKit Go.Gf Go.Fl
set_option linter.unusedVariables false
set_option linter.unusedSimpArgs false
set_option maxRecDepth 20000
attribute [local go_sem ↓] exec_load_tb Cl.quiet_since
attribute [local go_sem] tbAt_ptr tbIn_ptr
/-- what is found on a block's first pages -/
def fdL (κ : Nat → Kd) (b P : Nat) : Nat → List Fnd
  | 0 => []
  | p + 1 => match κ p with
    | .said k l q n => fdL κ b P p ++ [⟨((b * P + p : Nat) : Int), k, l, q, n⟩]
    | _ => fdL κ b P p
/-- how far they are used -/
def usN (κ : Nat → Kd) : Nat → Nat
  | 0 => 0
  | p + 1 => match κ p with
    | .blank => usN κ p
    | _ => p + 1
/-- how many cannot be read -/
def trN (κ : Nat → Kd) : Nat → Nat
  | 0 => 0
  | p + 1 => match κ p with
    | .torn => trN κ p + 1
    | _ => trN κ p
/-- WHAT SCAN's FUNCTIONS ANSWER -/
structure SC : Prop where
  block : ∀ {w0 w : World} {F : Nat → Prop} {a : Addr} {M : Dev} {cs : List Nat}, Env w0 F a M w → Fine M → Tab cs → M.dark = false → M.ops + M.P < 1000000000 → ∀ (b : Nat), b < M.B → ∀ κ : Nat → Kd,
    (∀ p, p < M.P → KdIs M.B M.P M.W M.K (M.pg b p).ps (κ p)) → (∀ p, p < M.P → (fateOf { M with ops := M.ops + p }).2.1 ≠ 2) → ∀ bI : Int, bI = (b : Int) →
    Calls Tryz.prog 19 #[.agg (cells cs), .pointer (some a), .int .i64 bI] w fun e w' => ∃ A c, e = .returned (.tuple #[.agg #[.slice A (fdL κ b M.P M.P).length c, .int .i64 (usN κ M.P : Int), .int .i64 (trN κ M.P : Int)], .int .i64 0]) ∧
      Cl.Keeps (fun q => ¬ F q) w w' ∧ Env w0 (fun q => F q ∧ ∀ a', A = some a' → q ≠ a'.block) a { M with ops := M.ops + M.P } w' ∧ FS w' w'.heap.size A (fdL κ b M.P M.P)
  out : ∀ {w0 w : World} {F : Nat → Prop} {a : Addr} {M : Dev} {cs : List Nat}, Env w0 F a M w → Fine M → Tab cs → M.dark = false → ∀ bI : Int, ¬ (0 ≤ bI ∧ bI < (M.B : Int)) →
    Calls Tryz.prog 19 #[.agg (cells cs), .pointer (some a), .int .i64 bI] w fun e w' => e = .returned (.tuple #[.agg #[.slice none 0 0, .int .i64 0, .int .i64 0], .int .i64 1]) ∧ Cl.Keeps (fun q => ¬ F q) w w' ∧ Env w0 F a { M with ops := M.ops + 1, rf := M.rf + 1 } w'
  nobody : ∀ {w : World} {cs : List Nat} (bI : Int), Calls Tryz.prog 19 #[.agg (cells cs), .pointer none, .int .i64 bI] w (We.Ans w (.tuple #[.agg #[.slice none 0 0, .int .i64 0, .int .i64 0], .int .i64 1]))
  latest : ∀ {w : World} {A : Option Addr} {l : List Fnd} {n c : Nat}, FS w w.heap.size A l → l.length = n → n ≤ 1000000 →
    Calls Tryz.prog 9 #[.slice A n c] w fun e w' => ∃ A' c' m, e = .returned (.slice A' m.length c') ∧ Below w.heap.size w w' ∧ LatIs l m ∧ FS w' w'.heap.size A' m ∧ m.length ≤ n
  greatest : ∀ {w : World} {A : Option Addr} {l : List Fnd} {n c : Nat}, FS w w.heap.size A l → l.length = n → n ≤ 1000000 → (∀ x ∈ l, 0 ≤ x.sq) → Calls Tryz.prog 10 #[.slice A n c] w (We.Ans w (.int .i64 (gtL l)))
/-- the first kk cells of a blank page's were programmed -/
theorem prog_half {ss : List Nat} {n : Nat} (hn : ss.length = n) (kk : Nat) : progP (List.replicate n (0, 0)) ss (kk : Int) = halfP ss kk := by
  unfold progP halfP
  rw [List.length_replicate, hn]
  refine List.map_congr_left fun i hi => ?_
  have hi' : i < n := List.mem_range.1 hi
  by_cases h : kk ≤ i
  · rw [if_neg (by omega), if_pos h]
    unfold ptAt
    simp [List.getD_eq_getElem?_getD, hi']
  · rw [if_pos (by omega), if_neg h]; rfl
theorem sb_zeros (w : World) (n : Nat) : Sb (w.alloc (.cells (madeCells #[.int .u8 0] n) 5)) (w.alloc (.cells (madeCells #[.int .u8 0] n) 5)).heap.size (some ⟨w.heap.size, 0, none⟩) (List.replicate n 0) := by
  refine ⟨fun x hx => by rw [List.eq_of_mem_replicate hx]; decide, Or.inr ⟨_, rfl, by rw [World.size_alloc]; exact Nat.lt_succ_self _, fun i hi => ?_⟩⟩
  have hin : i < n := by simpa using hi
  rw [show (⟨w.heap.size, 0, none⟩ : Addr).add i = ⟨w.heap.size, i, none⟩ by unfold Addr.add; split <;> simp_all]
  rw [Ge.cell_of (heap_alloc_new w _)]
  unfold madeCells
  simp [hin, Nat.mod_one, ub]
theorem infoU8 : (Tryz.prog.info? 5).map (fun i => (i.zero, i.size, i.bytes)) = some (some (.int .u8 0), 1, 1) := by kernel_rfl
theorem make_u8 (n : Nat) (hn : n ≤ 1000000) (w : World) : (Instr.makeSlice 44 (.int .i64 (n : Int)) (.int .i64 (n : Int))).run Tryz.prog w = .ok (.slice (some ⟨w.heap.size, 0, none⟩) n n) (w.alloc (.cells (madeCells #[.int .u8 0] n) 5)) := by
  have hi0 := infoU8
  obtain ⟨i, hi, hrest⟩ := Option.map_eq_some_iff.1 hi0
  simp only [Prod.mk.injEq] at hrest
  obtain ⟨i1, i2, i3⟩ := hrest
  have := run_make (P := Tryz.prog) w 44 5 i (.int .u8 0) Tryz.underlying44 hi i1 .i64 .i64 (n : Int) (n : Int) (by omega) (Int.le_refl _) (by rw [i3]; omega) (by omega)
  rw [i2, show (Value.int IntKind.u8 0).cells = #[Value.int IntKind.u8 0] from rfl] at this
  simpa using this
/-- symbols of one's own, made behind world w, are none of the device's -/
theorem own_syms {w0 w w' : World} {F : Nat → Prop} {a : Addr} {M : Dev} {v : Value} {ys : List Nat} (h : Env w0 F a M w) (ho : OwnS w w' v ys) (hb : Below w.heap.size w w') (hne : ys ≠ []) (hs : ∀ y ∈ ys, y < 1024) : ∃ g c, v = .slice (some ⟨g, 0, none⟩) ys.length c ∧ w.heap.size ≤ g ∧ g < w'.heap.size ∧
    Env w0 (fun b => F b ∧ b ≠ g) a M w' ∧ Syms w' (fun b => F b ∧ b ≠ g) (some ⟨g, 0, none⟩) ys.length c ys := by
  obtain ⟨g, c, rfl, hc, hg, hp⟩ := ho.pre hne
  obtain ⟨A', c', e, _, hsl⟩ := ho.sl
  injection e with e1 e2 e3
  subst e1 e3
  have hlt : g < w'.heap.size := by
    rcases hsl.2 with hsl | ⟨a', ea, hl, _⟩
    · exact absurd hsl hne
    · cases ea; exact hl
  exact ⟨g, c, rfl, hg, hlt, h.leave hb g hg hlt, hsl, fun a' ea => by cases ea; exact ⟨hlt, fun hh => hh.2 rfl⟩, rfl, hc, hs⟩
end Go.Proofs.YtjhoecfhmndcgaaGreat.Sc
namespace Go.Proofs.YtjhoecfhmndcgaaGreat.Sc
open Go.RowKit Go.Gf Go.Fl
set_option linter.unusedVariables false
set_option linter.unusedSimpArgs false
set_option maxRecDepth 20000
attribute [local go_sem ↓] exec_load_tb Cl.quiet_since
attribute [local go_sem] tbAt_ptr tbIn_ptr
theorem box3_0 (w : World) (x y z : Value) : (w.alloc (.cells #[x, y, z] 54)).cell? ⟨w.heap.size, 0, none⟩ = some x := We.cell_new w _ _ _
theorem box3_1 (w : World) (x y z : Value) : (w.alloc (.cells #[x, y, z] 54)).cell? ⟨w.heap.size, 1, none⟩ = some y := We.cell_new w _ _ _
theorem box3_2 (w : World) (x y z : Value) : (w.alloc (.cells #[x, y, z] 54)).cell? ⟨w.heap.size, 2, none⟩ = some z := We.cell_new w _ _ _
def awS : List Nat := pageL 1 (sayL 12 1 3 5 (List.replicate 5 0))
theorem aw_v : sayV 12 1 3 5 (List.replicate 5 0) := by refine ⟨by decide, by decide, by decide, by decide, by decide, by decide⟩
theorem aw_may : Ge.mayG (4 : Nat) (2 : Nat) ((1 : Nat) : Int) ((12 : Nat) : Int) = true := by decide
theorem aw_len : awS.length = 28 ∧ ∀ y ∈ awS, y < 1024 := by
  obtain ⟨h1, h2, _⟩ := said_len (B := (4 : Nat)) (P := (2 : Nat)) (W := 1) (K := 12) aw_may rfl aw_v
  exact ⟨h1, h2⟩
def awM0 : Dev := freshD 4 2 1 12 (marksOf [] 0) []
def awM1 : Dev := { awM0 with ops := 1, pg := setPg awM0.pg 1 0 (progPg (awM0.pg 1 0) awS 28) }
theorem aw_step : stepD awM0 2 1 0 awS = (0, awM1) := by
  have h := st_prog (M := awM0) (b := 1) (p := 0) (xs := awS) rfl (progE_ok rfl (nextB_yes (fun j _ _ => rfl) (Or.inl rfl)) rfl) (by rw [fateOf_nil rfl]; decide) (by rw [fateOf_nil rfl]; decide)
  exact h
def awK : Nat → Kd
  | 0 => .said 1 3 5 0
  | _ => .blank
theorem aw_kd : ∀ p, p < awM1.P → KdIs awM1.B awM1.P awM1.W awM1.K (awM1.pg 1 p).ps (awK p) := by
  intro p hp
  have hp2 : p = 0 ∨ p = 1 := by have : p < 2 := hp; omega
  rcases hp2 with rfl | rfl
  · have h := kd_whole (B := (4 : Nat)) (P := (2 : Nat)) (W := 1) (K := 12) aw_may rfl aw_v
    have e : (awM1.pg 1 0).ps = halfP awS (1 * (12 + 16)) := prog_half aw_len.1 28
    rw [e]; exact h
  · exact kd_blank 28 _ _ _ _
theorem aw_make (w : World) (A : Option Addr) (hs : Sb w w.heap.size A (List.replicate 5 0)) : Calls Tryz.prog 14 #[.agg #[.int .i64 4, .int .i64 2, .int .i64 1, .int .i64 12], .agg #[.int .i64 1, .int .i64 3, .int .i64 5], .slice A 5 5] w (RowV w awS 0) := by
  have h := make_rf (B := 4) (P := 2) (W := 1) (K := 12) (k := 1) (l := 3) (q := 5) (c := 5) hs (by decide)
  have hE : mkE 4 2 1 12 1 3 5 (List.replicate 5 0).length = 0 := by decide +kernel
  have hW : mkW 4 2 1 12 1 3 5 (List.replicate 5 0) = awS := by
    unfold mkW awS
    rw [hE, if_pos rfl]
    rfl
  rw [hE, hW] at h
  exact h
theorem aw_block (C : SC) {w0 w : World} {F : Nat → Prop} {a : Addr} {cs : List Nat} (h : Env w0 F a awM1 w) (hT : Tab cs) :
    Calls Tryz.prog 19 #[.agg (cells cs), .pointer (some a), .int .i64 1] w fun e w' => ∃ A c, e = .returned (.tuple #[.agg #[.slice A 1 c, .int .i64 1, .int .i64 0], .int .i64 0]) ∧
      Cl.Keeps (fun q => ¬ F q) w w' ∧ Env w0 (fun q => F q ∧ ∀ a', A = some a' → q ≠ a'.block) a { awM1 with ops := 3 } w' ∧ FS w' w'.heap.size A [⟨2, 1, 3, 5, 0⟩] :=
  C.block h ⟨by decide, by decide, fun _ => (by decide : 0 < 1000000)⟩ hT rfl (by decide) 1 (by decide) awK aw_kd (fun p _ => by rw [fateOf_nil rfl]; decide) 1 rfl
theorem aw_great (C : SC) {w : World} {A : Option Addr} {c : Nat} (h : FS w w.heap.size A [⟨2, 1, 3, 5, 0⟩]) : Calls Tryz.prog 10 #[.slice A 1 c] w (We.Ans w (.int .i64 5)) := C.greatest h rfl (by decide) (by decide)
set_option maxHeartbeats 8000000 in
theorem awake_any (C : SC) (w : World) : Calls Tryz.prog 8 #[] w (We.Ans w (.bool true)) := by
  have hX := Ge.Box.new w 4 2 1 12
  have hb1 := Lib.hid (Ge.below_alloc w (.cells #[.int .i64 4, .int .i64 2, .int .i64 1, .int .i64 12] 34))
  have hn1 := e_new (w := w.alloc (.cells #[.int .i64 4, .int .i64 2, .int .i64 1, .int .i64 12] 34)) 4 2 1 12 (b := 4) (p := 2) (k := 1) (l := 12) rfl rfl rfl rfl (by decide) (A := none) (bs := []) (n := 0) (c := 0) (Or.inl rfl) rfl (by decide) (by simp) (A2 := none) (ts := []) (n2 := 0) (c2 := 0) (Ft.S3.nil _ _ _) rfl (by decide) (by simp)
  replace hn1 := Lib.hid hn1
  have C' := Lib.hid C
  clear C
  obtain ⟨x0, x1, x2, x3, x4⟩ := id hX
  replace hX := Lib.hid hX
  go_enter Tryz.func8, Tryz.ntmps8
  go_wp2_with (go_at_call 13; (with_reducible refine hn1.out.mono ?_); clear hn1; rintro e w2 ⟨a, rfl, hb2, hE⟩; have hX2 := Lib.hid (hX.out.keep hb2); clear hX x0 x1 x2 x3 x4 hb2; replace hE := Lib.hid hE; (generalize w.alloc (.cells #[.int .i64 4, .int .i64 2, .int .i64 1, .int .i64 12] 34) = w1 at *))
  refine Cl.region_tree (fun _ => True) 9 (.r 0 <| .r 1 <| .c 2 <| .c 3 <| .r 4 <| .r 5 <| .r 6 <| .r 7 <| .r 8 <| .e) (by kernel_rfl) (by kernel_rfl) ?_
  intro w3 hk3
  have E3 := Lib.hid (Env.below hE.out hk3.below)
  have t0 : ∀ z : Cl.Since (fun _ => True) w3, z.w.cell? ⟨w.heap.size, 0, none⟩ = some (.int .i64 4) := fun z => ((hX2.out.keep hk3.below).keep z.keeps.below).c0
  have t1 : ∀ z : Cl.Since (fun _ => True) w3, z.w.cell? ⟨w.heap.size, 1, none⟩ = some (.int .i64 2) := fun z => ((hX2.out.keep hk3.below).keep z.keeps.below).c1
  have t2 : ∀ z : Cl.Since (fun _ => True) w3, z.w.cell? ⟨w.heap.size, 2, none⟩ = some (.int .i64 1) := fun z => ((hX2.out.keep hk3.below).keep z.keeps.below).c2
  have t3 : ∀ z : Cl.Since (fun _ => True) w3, z.w.cell? ⟨w.heap.size, 3, none⟩ = some (.int .i64 12) := fun z => ((hX2.out.keep hk3.below).keep z.keeps.below).c3
  clear hk3 hE hX2
  iterate 2 (refine Cl.tree_r rfl ?_; go_big_quiet_step (fail); refine wpQuiet_nil ?_)
  refine Cl.tree_c rfl ?_
  have mk : (Instr.makeSlice 44 (.int .i64 5) (.int .i64 5)).run Tryz.prog w3 = .ok (.slice (some ⟨w3.heap.size, 0, none⟩) 5 5) (w3.alloc (.cells (madeCells #[.int .u8 0] 5) 5)) := make_u8 5 (by decide) w3
  clear t0 t1 t2 t3
  go_wp2_with fail
  have hb4 := Ge.below_alloc w3 (.cells (madeCells #[.int .u8 0] 5) 5)
  have E4 := Lib.hid (Env.below E3.out hb4)
  have hc := Lib.hid (aw_make _ _ (sb_zeros w3 5))
  refine Cl.way_on (Cl.Keeps.of_below hb4) ?_
  clear mk hb4 E3
  generalize w3.heap.size = g3 at *
  generalize w3.alloc (.cells (madeCells #[.int .u8 0] 5) 5) = w4 at *
  refine Cl.tree_c rfl ?_
  go_wp2_with (go_at_call 14; (with_reducible refine hc.out.mono ?_); clear hc; rintro e w5 ⟨v, rfl, ho, hb5⟩)
  refine Cl.way_on (Cl.Keeps.of_below hb5) ?_
  obtain ⟨g5, c5, rfl, _, _, E5, S5⟩ := own_syms E4.out ho hb5 (by intro e; have := aw_len.1; rw [e] at this; cases this) aw_len.2
  rw [aw_len.1] at S5
  replace E5 := Lib.hid E5
  replace S5 := Lib.hid S5
  clear ho hb5 E4
  have hl := aw_len.1
  rw [hl]
  clear hl
  iterate 5 (refine Cl.tree_r rfl ?_; go_big_quiet_step (fail); refine wpQuiet_nil ?_)
  refine Cl.tree_e ?_
  have hc := Lib.hid (e_program E5.out (M := awM0) ⟨by decide, by decide, fun _ => (by decide : 0 < 1000000)⟩ 1 0 (by decide) (by decide) (bI := 1) (pI := 0) rfl rfl S5.out rfl aw_step)
  go_wp2_with (go_at_call 16; (with_reducible refine hc.out.mono ?_); clear hc; rintro e w6 ⟨rfl, _, E6⟩; replace E6 := Lib.hid E6; clear E5 S5)
  have hc := Lib.hid (make_any w6)
  go_wp2_with (go_at_call 17; (with_reducible refine hc.out.mono ?_); clear hc; rintro e w7 ⟨cs, rfl, hT, hb7⟩; have E7 := Lib.hid (Env.below E6.out hb7); replace hT := Lib.hid hT.tab; clear E6 hb7)
  have hc := Lib.hid (aw_block C'.out E7.out hT.out)
  go_wp2_with (go_at_call 19; (with_reducible refine hc.out.mono ?_); clear hc; rintro e w8 ⟨A, c8, rfl, _, E8, f8⟩; have hbA := We.below_alloc w8 (.cells #[.slice A 1 c8, .int .i64 1, .int .i64 0] 54); have s0 := Sc.box3_0 w8 (.slice A 1 c8) (.int .i64 1) (.int .i64 0); have s1 := Sc.box3_1 w8 (.slice A 1 c8) (.int .i64 1) (.int .i64 0); have s2 := Sc.box3_2 w8 (.slice A 1 c8) (.int .i64 1) (.int .i64 0); have f9 := FS.far f8 hbA; have hg := Lib.hid (aw_great C'.out (c := c8) f9); have E9 := Lib.hid (Env.below E8 hbA); obtain ⟨a9, rfl, _, q0, q1, q2, q3, q4⟩ := f9.head; clear E7 E8 f8 hbA f9)
  refine hg.out.mono ?_
  rintro e w10 ⟨rfl, hb10⟩
  have B10 := Lib.hid (hb1.out.trans ((E9.out.low.trans (hb10.mono E9.out.low.size)).mono hb1.out.size))
  clear E9 hg hb10 q0 q1 q2 q3 q4 s0 s1 s2
  go_wp2_with fail
  go_ret
  exact ⟨rfl, B10.out⟩
end Go.Proofs.YtjhoecfhmndcgaaGreat.Sc
namespace Go.Proofs.YtjhoecfhmndcgaaGreat.Sc
open Go.RowKit Go.Gf Go.Fl
set_option linter.unusedVariables false
set_option linter.unusedSimpArgs false
/-- the first p pages of block b are programmed with the symbols S -/
def dvP (x y W K b : Nat) (S : List Nat) (p : Nat) : Dev := { freshD x y W K (marksOf [] 0) [] with ops := p, pg := fun i j => if i = b ∧ j < p then progPg (blankPg (W * (K + 16))) S ((W * (K + 16) : Nat) : Int) else blankPg (W * (K + 16)) }
theorem dvP_zero (x y W K b : Nat) (S : List Nat) : dvP x y W K b S 0 = freshD x y W K (marksOf [] 0) [] := by
  have e : (fun i j => if i = b ∧ j < 0 then progPg (blankPg (W * (K + 16))) S ((W * (K + 16) : Nat) : Int) else blankPg (W * (K + 16))) = fun (_ _ : Nat) => blankPg (W * (K + 16)) := by
    funext i j
    rw [if_neg (by omega)]
  unfold dvP
  rw [e]
  rfl
theorem dvP_step {x y W K b p : Nat} {S : List Nat} (hb : b < x) (hp : p < y) (hS : S.length = W * (K + 16)) (h0 : 0 < W * (K + 16)) : stepD (dvP x y W K b S p) 2 b p S = (0, dvP x y W K b S (p + 1)) := by
  have h := st_prog (M := dvP x y W K b S p) (b := b) (p := p) (xs := S) rfl (progE_ok rfl (nextB_yes (fun j _ hj => by
    show ((if b = b ∧ j < p then progPg (blankPg (W * (K + 16))) S ((W * (K + 16) : Nat) : Int) else blankPg (W * (K + 16))).st = 0)
    rw [if_neg (by omega)]; rfl) (by
    rcases Nat.eq_zero_or_pos p with e | e
    · exact Or.inl e
    · right
      show ((if b = b ∧ p - 1 < p then progPg (blankPg (W * (K + 16))) S ((W * (K + 16) : Nat) : Int) else blankPg (W * (K + 16))).st ≠ 0)
      rw [if_pos ⟨rfl, by omega⟩]
      show progS S.length _ ≠ 0
      rw [hS]
      unfold progS
      rw [if_neg (by omega), if_pos (Int.le_refl _)]
      decide)) rfl) (by rw [fateOf_nil rfl]; decide) (by rw [fateOf_nil rfl]; decide)
  rw [h]
  congr 1
  unfold dvP
  congr 1
  funext i j
  unfold setPg
  dsimp only
  by_cases h1 : i = b ∧ j = p
  · obtain ⟨rfl, rfl⟩ := h1
    rw [if_pos (⟨rfl, rfl⟩ : i = i ∧ j = j), if_pos (show i = i ∧ j < j + 1 from ⟨rfl, Nat.lt_succ_self _⟩), if_neg (show ¬ (i = i ∧ j < j) from fun e => Nat.lt_irrefl _ e.2)]
    rfl
  · rw [if_neg h1]
    by_cases h2 : i = b ∧ j < p
    · rw [if_pos h2, if_pos ⟨h2.1, by omega⟩]
    · rw [if_neg h2, if_neg (by omega)]
/-- n pages of the block say something, the rest is blank -/
def kN (k l q n : Nat) (p : Nat) : Kd := if p < n then .said k l q 0 else .blank
theorem kN_len (k l q n b P : Nat) : ∀ p, (fdL (kN k l q n) b P p).length = min p n
  | 0 => by simp [fdL]
  | p + 1 => by
    rw [fdL]
    unfold kN
    by_cases h : p < n
    · rw [if_pos h]
      show (fdL (kN k l q n) b P p ++ [_]).length = _
      rw [List.length_append, kN_len k l q n b P p]; simp; omega
    · rw [if_neg h]
      show (fdL (kN k l q n) b P p).length = _
      rw [kN_len k l q n b P p]; omega
theorem kN_us (k l q n : Nat) : ∀ p, usN (kN k l q n) p = min p n
  | 0 => by simp [usN]
  | p + 1 => by
    rw [usN]
    unfold kN
    by_cases h : p < n
    · rw [if_pos h]
      show p + 1 = _
      omega
    · rw [if_neg h]
      show usN (kN k l q n) p = _
      rw [kN_us k l q n p]; omega
theorem kN_tr (k l q n : Nat) : ∀ p, trN (kN k l q n) p = 0
  | 0 => rfl
  | p + 1 => by
    rw [trN]
    unfold kN
    by_cases h : p < n
    · rw [if_pos h]; exact kN_tr k l q n p
    · rw [if_neg h]; exact kN_tr k l q n p
theorem dvP_kd {B P : Int} {x y W K N b n k l q : Nat} {d : List Nat} (eB : B = (x : Int)) (eP : P = (y : Int)) (hM : Ge.mayG B P (W : Int) (K : Int) = true) (hN : W * K = N) (hv : sayV N k l q d) (m : Nat) : ∀ p, p < y → KdIs (x : Int) (y : Int) (W : Int) (K : Int) (({ dvP x y W K b (pageL W (sayL N k l q d)) n with ops := m } : Dev).pg b p).ps (kN k l q n p) := by
  intro p hp
  subst eB eP
  show KdIs (x : Int) (y : Int) (W : Int) (K : Int) ((if b = b ∧ p < n then progPg (blankPg (W * (K + 16))) (pageL W (sayL N k l q d)) ((W * (K + 16) : Nat) : Int) else blankPg (W * (K + 16))).ps) (kN k l q n p)
  unfold kN
  by_cases h : p < n
  · rw [if_pos ⟨rfl, h⟩, if_pos h]
    show KdIs _ _ _ _ (progP (List.replicate (W * (K + 16)) (0, 0)) (pageL W (sayL N k l q d)) ((W * (K + 16) : Nat) : Int)) _
    rw [prog_half (said_len hM hN hv).1]
    exact kd_whole hM hN hv
  · rw [if_neg (by omega), if_neg h]
    exact kd_blank _ _ _ _ _
/-- block g is that geometry -/
def G4 (w : World) (g : Nat) (B P W K : Int) : Prop := w.heap[g]? = some (.cells #[.int .i64 B, .int .i64 P, .int .i64 W, .int .i64 K] 34 (0, 0))
section
variable {w w' : World} {g : Nat} {B P W K : Int}
theorem G4.lt (h : G4 w g B P W K) : g < w.heap.size := by
  rcases Nat.lt_or_ge g w.heap.size with hlt | hge
  · exact hlt
  · unfold G4 at h; rw [Array.getElem?_eq_none hge] at h; cases h
theorem G4.new (w : World) (B P W K : Int) : G4 (w.alloc (.cells #[.int .i64 B, .int .i64 P, .int .i64 W, .int .i64 K] 34)) w.heap.size B P W K := heap_alloc_new w _
theorem G4.c0 (h : G4 w g B P W K) : w.cell? ⟨g, 0, none⟩ = some (.int .i64 B) := cell_of_row w g 0 _ _ _ h
theorem G4.c1 (h : G4 w g B P W K) : w.cell? ⟨g, 1, none⟩ = some (.int .i64 P) := cell_of_row w g 1 _ _ _ h
theorem G4.c2 (h : G4 w g B P W K) : w.cell? ⟨g, 2, none⟩ = some (.int .i64 W) := cell_of_row w g 2 _ _ _ h
theorem G4.c3 (h : G4 w g B P W K) : w.cell? ⟨g, 3, none⟩ = some (.int .i64 K) := cell_of_row w g 3 _ _ _ h
theorem G4.keep (h : G4 w g B P W K) (hb : w'.heap[g]? = w.heap[g]?) : G4 w' g B P W K := hb.trans h
theorem G4.below (h : G4 w g B P W K) (hb : Below w.heap.size w w') : G4 w' g B P W K := h.keep (hb.block g h.lt)
theorem G4.out {F : Nat → Prop} {w0 : World} (h : G4 w g B P W K) (k : Cl.Keeps (fun b => ¬ F b) w w') (hF : ∀ b, F b → w0.heap.size ≤ b) (hg : g < w0.heap.size) : G4 w' g B P W K := h.keep (k.block g h.lt fun hf => by have := hF g hf; omega)
end
/-- block g is that sight -/
def S3 (w : World) (g : Nat) (x y z : Value) : Prop := w.heap[g]? = some (.cells #[x, y, z] 54 (0, 0))
section
variable {w w' : World} {g : Nat} {x y z : Value}
theorem S3.lt (h : S3 w g x y z) : g < w.heap.size := by
  rcases Nat.lt_or_ge g w.heap.size with hlt | hge
  · exact hlt
  · unfold S3 at h; rw [Array.getElem?_eq_none hge] at h; cases h
theorem S3.new (w : World) (x y z : Value) : S3 (w.alloc (.cells #[x, y, z] 54)) w.heap.size x y z := heap_alloc_new w _
theorem S3.c0 (h : S3 w g x y z) : w.cell? ⟨g, 0, none⟩ = some x := cell_of_row w g 0 _ _ _ h
theorem S3.c1 (h : S3 w g x y z) : w.cell? ⟨g, 1, none⟩ = some y := cell_of_row w g 1 _ _ _ h
theorem S3.c2 (h : S3 w g x y z) : w.cell? ⟨g, 2, none⟩ = some z := cell_of_row w g 2 _ _ _ h
theorem S3.keep (h : S3 w g x y z) (hb : w'.heap[g]? = w.heap[g]?) : S3 w' g x y z := hb.trans h
theorem S3.below (h : S3 w g x y z) (hb : Below w.heap.size w w') : S3 w' g x y z := h.keep (hb.block g h.lt)
theorem S3.out {F : Nat → Prop} (h : S3 w g x y z) (k : Cl.Keeps (fun b => ¬ F b) w w') (hg : ¬ F g) : S3 w' g x y z := h.keep (k.block g h.lt hg)
end
theorem tb_is {w : World} {g : Nat} {cs : List Nat} (h : Tb w g cs) (hl : cs.length = 2047) : isTb w g = true ∧ tbOf w g = cells cs := by
  have e : w.heap[g]? = _ := h
  refine ⟨?_, ?_⟩
  · unfold isTb
    rw [e]
    simp [cells_size, hl]
  · unfold tbOf
    rw [e]
theorem tb_out {w w' : World} {g : Nat} {cs : List Nat} {F : Nat → Prop} (h : Tb w g cs) (k : Cl.Keeps (fun b => ¬ F b) w w') (hg : ¬ F g) : Tb w' g cs := by
  have e : w.heap[g]? = _ := h
  have hlt : g < w.heap.size := by
    rcases Nat.lt_or_ge g w.heap.size with hlt | hge
    · exact hlt
    · rw [Array.getElem?_eq_none hge] at e; cases e
  show w'.heap[g]? = _
  rw [k.block g hlt hg]; exact e
/-- the tables in a box, beside the device -/
theorem tb_start {w0 w10 : World} {F : Nat → Prop} {a : Addr} {M : Dev} {cs : List Nat} (h : Env w0 F a M w10) :
    Below w10.heap.size w10 ((w10.alloc (.cells (cells ZT) 50)).setRow w10.heap.size (cells cs)) ∧ Env w0 (fun b => F b ∧ b ≠ w10.heap.size) a M ((w10.alloc (.cells (cells ZT) 50)).setRow w10.heap.size (cells cs)) ∧ Tb ((w10.alloc (.cells (cells ZT) 50)).setRow w10.heap.size (cells cs)) w10.heap.size cs := by
  have hS := St.start (w := w10) (w1 := w10) (cs := cs) (Below.refl _ _) (cells ZT)
  exact ⟨hS.below, h.leave hS.below _ (Nat.le_refl _) hS.lt, hS.tb⟩
theorem dvP_fine (x y W K b : Nat) (S : List Nat) {t : Nat} (ht : t < 1000000) : Fine (dvP x y W K b S t) := ⟨by show t < _; omega, by show (0 : Nat) < _; decide, fun _ => by show (0 : Nat) < _; decide⟩
theorem dv_program {w0 w : World} {F : Nat → Prop} {a : Addr} {x y W K b p n c : Nat} {A : Option Addr} {S : List Nat} (h : Env w0 F a (dvP x y W K b S p) w) (hs : Syms w F A n c S) (hn : W * (K + 16) = n) (h0 : 0 < n) (hb : b < x) (hp : p < y) (hy : y ≤ 32) {bI pI : Int} (e1 : bI = (b : Int)) (e2 : pI = (p : Int)) :
    Calls Tryz.prog 16 #[.pointer (some a), .int .i64 bI, .int .i64 pI, .slice A n c] w fun e w' => e = .returned (.int .i64 0) ∧ Cl.Keeps (fun b => ¬ F b) w w' ∧ Env w0 F a (dvP x y W K b S (p + 1)) w' := by
  have hf : Fine (dvP x y W K b S p) := dvP_fine x y W K b S (by omega)
  have hB : b < (dvP x y W K b S p).B := hb
  have hP : p < (dvP x y W K b S p).P := hp
  have hN : n = (dvP x y W K b S p).n := hn.symm
  have hst : stepD (dvP x y W K b S p) 2 b p S = (0, dvP x y W K b S (p + 1)) := dvP_step hb hp (by rw [hs.len, hn]) (by rw [hn]; exact h0)
  generalize dvP x y W K b S p = M at *
  generalize dvP x y W K b S (p + 1) = M' at *
  exact e_program h hf b p hB hP e1 e2 hs hN hst
/-- the block is scanned: n pages are found -/
theorem dv_scan (C : SC) {w0 w : World} {F : Nat → Prop} {a : Addr} {x y W K N b n k l q : Nat} {d : List Nat} {cs : List Nat} (h : Env w0 F a (dvP x y W K b (pageL W (sayL N k l q d)) n) w) (hT : Tab cs) (hM : Ge.mayG (x : Int) (y : Int) (W : Int) (K : Int) = true) (hN : W * K = N) (hv : sayV N k l q d) (hb : b < x) (hy : y ≤ 32) (hn : n ≤ y) {bI : Int} (e1 : bI = (b : Int)) :
    Calls Tryz.prog 19 #[.agg (cells cs), .pointer (some a), .int .i64 bI] w fun e w' => ∃ A c, e = .returned (.tuple #[.agg #[.slice A n c, .int .i64 (n : Int), .int .i64 0], .int .i64 0]) ∧ Cl.Keeps (fun q => ¬ F q) w w' ∧
      Env w0 (fun q => F q ∧ ∀ a', A = some a' → q ≠ a'.block) a { dvP x y W K b (pageL W (sayL N k l q d)) n with ops := n + y } w' := by
  have hc := C.block h (dvP_fine x y W K b _ (by omega)) hT rfl (show n + y < 1000000000 by omega) b hb (kN k l q n) (dvP_kd rfl rfl hM hN hv n) (fun p _ => by rw [fateOf_nil rfl]; decide) bI e1
  refine hc.mono fun e w' ⟨A, c, he, hk, hE, _⟩ => ⟨A, c, ?_, hk, hE⟩
  have e2 : (fdL (kN k l q n) b y y).length = n := by rw [kN_len]; omega
  have e3 : usN (kN k l q n) y = n := by rw [kN_us]; omega
  have e4 : trN (kN k l q n) y = 0 := kN_tr k l q n y
  rw [he]
  show Ending.returned (.tuple #[.agg #[.slice A (fdL (kN k l q n) b y y).length c, .int .i64 (usN (kN k l q n) y : Int), .int .i64 (trN (kN k l q n) y : Int)], .int .i64 0]) = _
  rw [e2, e3, e4]
  rfl
/-- the device when the block was wiped -/
def dvW (x y W K b : Nat) (S : List Nat) (n m r : Nat) : Dev := { wiped (dvP x y W K b S n) b y with ops := m, er := putB (fun _ => 0) b 1, rf := r }
theorem dv_erase {w0 w : World} {F : Nat → Prop} {a : Addr} {x y W K b n m : Nat} {S : List Nat} (h : Env w0 F a { dvP x y W K b S n with ops := m } w) (hm : m < 1000000) (hb : b < x) {bI : Int} (e1 : bI = (b : Int)) :
    Calls Tryz.prog 20 #[.pointer (some a), .int .i64 bI] w fun e w' => e = .returned (.int .i64 0) ∧ Cl.Keeps (fun b => ¬ F b) w w' ∧ Env w0 F a (dvW x y W K b S n (m + 1) 0) w' :=
  e_erase h ⟨by show m < _; omega, by show (0 : Nat) < _; decide, fun _ => by show (0 : Nat) < _; decide⟩ b hb e1 (st_erase (M := { dvP x y W K b S n with ops := m }) rfl (erasE_ok rfl rfl) (by rw [fateOf_nil rfl]; decide) (by rw [fateOf_nil rfl]; decide))
theorem dvW_fine (x y W K b : Nat) (S : List Nat) (n : Nat) {m r : Nat} (hm : m < 1000000) (hr : r < 1000000) : Fine (dvW x y W K b S n m r) := ⟨by show m < _; omega, by show r < _; omega, fun i => by
  show putB (fun _ => 0) b 1 i < _
  unfold putB
  split
  · decide
  · exact (by decide : (0 : Nat) < 1000000)⟩
/-- nothing is found any more -/
theorem dv_scan0 (C : SC) {w0 w : World} {F : Nat → Prop} {a : Addr} {x y W K b n m : Nat} {S : List Nat} {cs : List Nat} (h : Env w0 F a (dvW x y W K b S n m 0) w) (hm : m < 1000000) (hT : Tab cs) (hb : b < x) (hy : y ≤ 32) {bI : Int} (e1 : bI = (b : Int)) :
    Calls Tryz.prog 19 #[.agg (cells cs), .pointer (some a), .int .i64 bI] w fun e w' => ∃ A c, e = .returned (.tuple #[.agg #[.slice A 0 c, .int .i64 0, .int .i64 0], .int .i64 0]) ∧ Cl.Keeps (fun q => ¬ F q) w w' ∧
      Env w0 (fun q => F q ∧ ∀ a', A = some a' → q ≠ a'.block) a (dvW x y W K b S n (m + y) 0) w' := by
  have hc := C.block h (dvW_fine x y W K b S n hm (by decide)) hT rfl (show m + y < 1000000000 by omega) b hb (kN 1 0 0 0) (fun p hp => by
    show KdIs _ _ _ _ ((if b = b ∧ p < y then blankPg (W * (K + 16)) else _).ps) (kN 1 0 0 0 p)
    rw [if_pos ⟨rfl, hp⟩]
    unfold kN
    rw [if_neg (by omega)]
    exact kd_blank _ _ _ _ _) (fun p _ => by rw [fateOf_nil rfl]; decide) bI e1
  refine hc.mono fun e w' ⟨A, c, he, hk, hE, _⟩ => ⟨A, c, ?_, hk, hE⟩
  have e2 : (fdL (kN 1 0 0 0) b y y).length = 0 := by rw [kN_len]; omega
  have e3 : usN (kN 1 0 0 0) y = 0 := by rw [kN_us]; omega
  have e4 : trN (kN 1 0 0 0) y = 0 := kN_tr 1 0 0 0 y
  rw [he]
  show Ending.returned (.tuple #[.agg #[.slice A (fdL (kN 1 0 0 0) b y y).length c, .int .i64 (usN (kN 1 0 0 0) y : Int), .int .i64 (trN (kN 1 0 0 0) y : Int)], .int .i64 0]) = _
  rw [e2, e3, e4]
  rfl
theorem make_page {B P : Int} {W K N k l q : Nat} {d : List Nat} (hM : Ge.mayG B P (W : Int) (K : Int) = true) (hN : W * K = N) (hv : sayV N k l q d) {kI lI qI : Int} (e1 : kI = (k : Int)) (e2 : lI = (l : Int)) (e3 : qI = (q : Int)) {n c : Nat} (hn : d.length = n) {A : Option Addr} {w : World} (hs : Sb w w.heap.size A d) (hl : n ≤ 1000000) :
    Calls Tryz.prog 14 #[.agg #[.int .i64 B, .int .i64 P, .int .i64 (W : Int), .int .i64 (K : Int)], .agg #[.int .i64 kI, .int .i64 lI, .int .i64 qI], .slice A n c] w (RowV w (pageL W (sayL N k l q d)) 0) := by
  subst e1 e2 e3 hn
  have h := make_rf (B := B) (P := P) (W := (W : Int)) (K := (K : Int)) (k := (k : Int)) (l := (l : Int)) (q := (q : Int)) (c := c) hs hl
  obtain ⟨W', K', N', hWe, hKe, hN', hW1, hW4, hK1, hK64, h8', h256, hsg, hcg⟩ := mayG_of hM
  obtain rfl : W = W' := Int.ofNat.inj hWe
  obtain rfl : K = K' := Int.ofNat.inj hKe
  have hNN : N' = N := by rw [← hN', hN]
  subst hNN
  have hE : mkE B P W K k l q d.length = 0 := mkE_ok hM (by
    unfold mkB
    obtain ⟨v1, v2, v3, v4, _⟩ := hv
    simp
    omega) (by rw [hsg, hv.2.2.2.2.1])
  have hW : mkW B P W K k l q d = pageL W (sayL N' k l q d) := by
    unfold mkW
    rw [hE, if_pos rfl, ← Int.natCast_mul, hN']
    rfl
  rw [hE, hW] at h
  exact h
end Go.Proofs.YtjhoecfhmndcgaaGreat.Sc
