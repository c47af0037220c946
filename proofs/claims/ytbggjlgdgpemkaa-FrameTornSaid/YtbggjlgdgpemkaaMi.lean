/- What a page's points say: plain; the program's frame: the words mended. -/
import Derived.Test.YtbggjlgdgpemkaaMd
import Derived.Test.YtbggjlgdgpemkaaMh
import Derived.Test.YtbggjlgdgpemkaaCg
namespace Go.Proofs.Ytbggjlgdgpemkaa
open Go.RowKit Go.Gf Go.Fl
set_option linter.unusedVariables false
set_option linter.unusedSimpArgs false
set_option maxRecDepth 20000
attribute [local go_sem ↓] exec_load_tb Cl.quiet_since
attribute [local go_sem] tbAt_ptr tbIn_ptr

/-- the symbols of codeword j, of W with n each -/
def rowS (W n : Nat) (ss : List Nat) (j : Nat) : List Nat := rm n fun q => at_ ss (q * W + j)
/-- how many of its symbols are wrong, or have a point that is nought, where ys was meant -/
def nbW (W n : Nat) (ss : List Nat) (z : Nat → Bool) (j : Nat) (ys : List Nat) : Nat := bc (fun q => z (q * W + j) || decide (at_ (rowS W n ss j) q ≠ at_ ys q)) n
/-- it is read as ys -/
def GoodR (W n : Nat) (ss : List Nat) (z : Nat → Bool) (j : Nat) (ys : List Nat) : Prop := Near (rowS W n ss j) ys ∧ nbW W n ss z j ys ≤ 8
section
variable {W n j : Nat} {ss ys zs : List Nat} {z : Nat → Bool}
theorem rowS_len : (rowS W n ss j).length = n := rm_len _ _
theorem rowS_bd (h : ∀ y ∈ ss, y < 1024) : ∀ y ∈ rowS W n ss j, y < 1024 := rm_mem fun q _ => at_lt h (by decide)
theorem good_unique (hn : n ≤ 1023) (h : GoodR W n ss z j ys) (k : GoodR W n ss z j zs) : ys = zs := near_unique (by rw [rowS_len]; exact hn) h.1 k.1
theorem near_len (h : Near (rowS W n ss j) ys) : ys.length = n := by
  obtain ⟨h1, _⟩ := h
  rw [rowS_len] at h1
  exact h1
theorem near_bd' (h : Near (rowS W n ss j) ys) : ∀ y ∈ ys, y < 1024 := h.2
theorem nb_split (h : Near (rowS W n ss j) ys) : dl ys (rowS W n ss j) + uncN (fun q => z (q * W + j)) (rowS W n ss j) ys n = nbW W n ss z j ys := by
  rw [dl_bc (by rw [near_len h, rowS_len]), near_len h]
  unfold nbW uncN
  refine (bc_split fun q _ => ⟨?_, ?_⟩).symm
  · show (z (q * W + j) || decide (at_ (rowS W n ss j) q ≠ at_ ys q)) = (decide (at_ ys q ≠ at_ (rowS W n ss j) q) || (z (q * W + j) && decide (at_ (rowS W n ss j) q = at_ ys q)))
    by_cases e : at_ (rowS W n ss j) q = at_ ys q
    · simp [e]
    · have e' : ¬ at_ ys q = at_ (rowS W n ss j) q := fun h => e h.symm
      simp [e, e']
  · rintro ⟨h1, h2⟩
    rw [decide_eq_true_eq] at h1
    rw [Bool.and_eq_true, decide_eq_true_eq] at h2
    exact h1 h2.2.symm
end
theorem uncN_congr {z z' : Nat → Bool} {r y : List Nat} {n : Nat} (h : ∀ q, q < n → z q = z' q) : uncN z r y n = uncN z' r y n := bc_congr fun q hq => by rw [h q hq]
/-- the words, each without its last sixteen symbols, woven -/
def sayW (W K : Nat) (ws : Nat → List Nat) : List Nat := wvOf ((List.range W).map fun j => (ws j).take K)
/-- what mended is to answer -/
def Mnd (W K : Nat) (ss : List Nat) (z : Nat → Bool) (w : World) (e : Ending) (w' : World) : Prop :=
  ((e = .returned (.tuple #[.slice none 0 0, .int .i64 0, .bool false]) ∧ ∃ j, j < W ∧ ∀ ys, ¬ GoodR W (K + 16) ss z j ys) ∨
   ∃ v ws, e = .returned (.tuple #[v, .int .i64 ((mxF (fun j => nbW W (K + 16) ss z j (ws j)) W : Nat) : Int), .bool true]) ∧ (∀ j, j < W → GoodR W (K + 16) ss z j (ws j)) ∧ OwnS w w' v (sayW W K ws)) ∧ Below w.heap.size w w'
/-- the program's decoder, where a word is near -/
theorem dec_yes {cs : List Nat} (hcs : Tab cs) {A : Option Addr} {c : Nat} {xs ys : List Nat} {w : World} (hs : Sl w w.heap.size A xs) (h1 : 17 ≤ xs.length) (h2 : xs.length ≤ 1023) (hx : ∀ x ∈ xs, x < 1024) (hn : Near xs ys) :
    Calls Try.prog 52 #[.agg (cells cs), .slice A xs.length c] w fun e w' => ∃ A' c', e = .returned (.tuple #[.slice A' ys.length c', .int .i64 ((dl ys xs : Nat) : Int), .int .i64 0]) ∧ ys.length ≤ c' ∧ SlF w' w.heap.size A' ys ∧ Below w.heap.size w w' := by
  refine (decode_any cs hcs A c xs w hs (by omega)).mono ?_
  rintro e w' ⟨zs, n, f, A', c', hd, rfl, hc, hs', hb⟩
  rcases mdec_cases hd h1 h2 hx with ⟨rfl, hnr, rfl⟩ | ⟨_, _, _, hno⟩
  · obtain rfl := near_unique h2 hnr hn
    exact ⟨A', c', rfl, hc, hs', hb⟩
  · exact absurd hn (hno ys)
theorem dec_no {cs : List Nat} (hcs : Tab cs) {A : Option Addr} {c : Nat} {xs : List Nat} {w : World} (hs : Sl w w.heap.size A xs) (h1 : 17 ≤ xs.length) (h2 : xs.length ≤ 1023) (hx : ∀ x ∈ xs, x < 1024) (hn : ∀ c, ¬ Near xs c) :
    Calls Try.prog 52 #[.agg (cells cs), .slice A xs.length c] w fun e w' => ∃ A' c', e = .returned (.tuple #[.slice A' 0 c', .int .i64 0, .int .i64 4]) ∧ Below w.heap.size w w' := by
  refine (decode_any cs hcs A c xs w hs (by omega)).mono ?_
  rintro e w' ⟨zs, n, f, A', c', hd, rfl, hc, hs', hb⟩
  rcases mdec_cases hd h1 h2 hx with ⟨_, hnr, _⟩ | ⟨rfl, rfl, rfl, hno⟩
  · exact absurd hnr (hn zs)
  · exact ⟨A', c', rfl, hb⟩
set_option maxHeartbeats 8000000 in
theorem mended_any {cs : List Nat} (hcs : Tab cs) {B P : Int} {W K : Nat} {A : Option Addr} {c : Nat} {xs : List (Nat × Nat)} {ss : List Nat} {w : World} (hW : 1 ≤ W ∧ W ≤ 4) (hK : 1 ≤ K ∧ K ≤ 64) (hs : Cx w w.heap.size A xs) (hl : xs.length = W * (K + 16))
    (hn : ss.length = xs.length) (hsl : ∀ i, i < xs.length → SlcIs (xA xs i) (at_ ss i)) (hb : ∀ y ∈ ss, y < 1024) :
    Calls Try.prog 34 #[.agg (cells cs), .agg #[.int .i64 B, .int .i64 P, .int .i64 (W : Int), .int .i64 (K : Int)], .slice A xs.length c] w (Mnd W K ss (fun i => zP (xA xs i)) w) := by
  have H := Lib.hid hs
  have HCS := Lib.hid hcs
  obtain ⟨wa, hwa⟩ : ∃ wa, wa = w.alloc (.cells (cells cs) 33) := ⟨_, rfl⟩
  obtain ⟨wb, hwb⟩ : ∃ wb, wb = wa.alloc (.cells #[.int .i64 B, .int .i64 P, .int .i64 (W : Int), .int .i64 (K : Int)] 23) := ⟨_, rfl⟩
  have hba : Below w.heap.size w wa := by rw [hwa]; exact Ge.below_alloc w _
  have hbb : Below w.heap.size w wb := hba.trans (by rw [hwb]; exact (Ge.below_alloc wa _).mono hba.size)
  have hT : Tb wb w.heap.size cs := by
    have : Tb wa w.heap.size cs := by rw [hwa]; exact tb_new w cs
    exact this.keep (by rw [hwb]; exact Ge.below_alloc wa _)
  have hX : Ge.Box wb (w.heap.size + 1) B P W K := by
    have := Ge.Box.new wa B P W K
    rw [← hwb] at this
    rwa [show wa.heap.size = w.heap.size + 1 by rw [hwa, World.size_alloc]] at this
  have hN4 : W * (K + 16) ≤ 320 := Nat.mul_le_mul hW.2 (show K + 16 ≤ 80 by omega)
  obtain ⟨L, hL⟩ : ∃ L, xs.length = L := ⟨_, rfl⟩
  have hL3 : L ≤ 320 := by omega
  have hLW : Hid (L = W * (K + 16)) := by unfold Hid; omega
  have hsL : Hid (ss.length = L) := by unfold Hid; omega
  replace hL := Lib.hid hL
  have HSL := Lib.hid hsl
  have HB := Lib.hid hb
  rw [hL.out]
  clear hl hn hsl hs hcs hN4
  go_enter Try.func34, Try.ntmps34
  go_wp2_with fail
  rw [← hwa, ← hwb]
  clear hwa hwb hba
  replace hbb := Lib.hid hbb
  replace hT := Lib.hid hT
  replace hX := Lib.hid hX
  refine Cl.region_way (fun _ => True) 10 [(0, .r), (1, .r), (2, .r), (3, .c), (4, .c), (5, .r), (6, .r), (7, .r), (8, .r), (9, .r)] (by kernel_rfl) (by kernel_rfl) ?_
  intro w1 hk1
  have hT1 := Lib.hid (hT.out.keep (Cl.Keeps.below hk1))
  have hX1 := Lib.hid (hX.out.keep (Cl.Keeps.below hk1))
  have hb1 := Lib.hid (hbb.out.trans ((Cl.Keeps.below hk1).mono hbb.out.size))
  have x2 : ∀ y : Cl.Since (fun _ => True) w1, y.w.cell? ⟨w.heap.size + 1, 2, none⟩ = some (.int .i64 (W : Int)) := fun y => (hX1.out.keep (Cl.Keeps.below y.keeps)).c2
  have hsc := Lib.hid (sliced_any A c xs ss w1 (H.out.far hb1.out) (by have := hL.out; omega) (by rw [hsL.out, hL.out]) HSL.out (fun y hy => by have := HB.out y hy; omega))
  rw [hL.out] at hsc
  clear hk1 hT hX hbb HSL
  iterate 3 (refine Cl.way_r rfl ?_; go_big_quiet_step (fail); refine wpQuiet_nil ?_)
  refine Cl.way_c rfl ?_
  go_wp2_with (go_at_call 51; (with_reducible refine hsc.out.mono ?_); rintro e w2 ⟨v2, rfl, ho2, hb2⟩)
  refine Cl.way_on (Cl.Keeps.of_below hb2) ?_
  obtain ⟨A2, c2, rfl, hc2, hs2⟩ := ho2.sl
  have hin := in_row (c := c2) hLW.out.symm hW (by omega) hs2 hsL.out (by omega)
  rw [hsL.out] at hin ⊢
  have hT2 := hT1.out.keep hb2
  have hX2 := hX1.out.keep hb2
  have hbw2 := hb1.out.trans (hb2.mono hb1.out.size)
  replace hin := Lib.hid hin
  clear hsc ho2 hs2 hc2 x2
  refine Cl.way_c rfl ?_
  go_wp2_with (go_at_call 43; (with_reducible refine hin.out.mono ?_); rintro e w3 ⟨g, f, rfl, hat, hR3, hb3⟩)
  refine Cl.way_on (Cl.Keeps.of_below hb3) ?_
  have hgw : w.heap.size + 1 < g := by have := hX2.lt; omega
  have hT3 := Lib.hid (hT2.keep hb3)
  have hX3 := Lib.hid (hX2.keep hb3)
  have hbw3 := Lib.hid (hbw2.trans (hb3.mono hbw2.size))
  have hR := hR3.congr (ws' := fun j => rowS W (K + 16) ss j) (fun j hj => dealt_get' (by rw [hsL.out, hLW.out]) hj)
  replace hR := Lib.hid hR
  clear hT2 hX2 hbw2 hb3 hR3 hin hT1 hX1 hb1 hb2 hat
  iterate 5 (refine Cl.way_r rfl ?_; go_big_quiet_step (fail); refine wpQuiet_nil ?_)
  refine Cl.way_end ?_
  go_wp2_with fail
  obtain ⟨n, hn⟩ : ∃ n, K + 16 = n := ⟨_, rfl⟩
  have hn80 : n ≤ 80 := by omega
  have hKn : K ≤ n := by omega
  rw [hn] at hR hLW
  have hZ : ∀ j, j < W → Hid (∀ q, q < n → zP (xA (colX xs W j n) q) = zP (xA xs (q * W + j))) := fun j hj q hq => by rw [colX_at hq]
  go_loopw [11, 29] (fun m p wr => ∃ (i : Nat) (ws : Nat → List Nat), i ≤ W ∧ p = .int .i64 i ∧ (∀ j, j < i → GoodR W n ss (fun i => zP (xA xs i)) j (ws j)) ∧ m = .int .i64 ((mxF (fun j => nbW W n ss (fun i => zP (xA xs i)) j (ws j)) i : Nat) : Int) ∧
    (∃ f, RowsI wr g W f (fun j => if j < i then (ws j).take K else rowS W n ss j)) ∧ Tb wr w.heap.size cs ∧ Ge.Box wr (w.heap.size + 1) B P W K ∧ Below w.heap.size w wr) (fun _ p _ => W - (intOf p).toNat)
  case atStart => exact ⟨0, fun _ => [], Nat.zero_le _, rfl, fun j h => absurd h (by omega), rfl, ⟨f, hR.out.congr fun j _ => by rw [if_neg (by omega)]⟩, hT3.out, hX3.out, hbw3.out⟩
  case round =>
    clear hR hT3 hX3 hbw3
    obtain ⟨i, ws, hi, rfl, hG, rfl, ⟨f', hR⟩, hT, hX, hB⟩ := hrel
    have hmx : mxF (fun j => nbW W n ss (fun i => zP (xA xs i)) j (ws j)) i ≤ 8 := mxF_le.2 fun j hj => (hG j hj).2
    by_cases hlt : i < W
    · have hiI : (i : Int) < (W : Int) := by omega
      have hdi : decide (i < W) = true := decide_eq_true hlt
      obtain ⟨D, cD, hfi, hcD, hsD, hDne⟩ := hR.row i hlt
      rw [if_neg (by omega)] at hfi hcD hsD
      have hcl := hR.vs.cell hlt
      rw [hfi] at hcl
      have hrl : (rowS W n ss i).length = n := rowS_len
      have hrb := rowS_bd (W := W) (n := n) (j := i) HB.out
      have hi1 := hT.is HCS.out.1
      have hi2 := hT.of
      by_cases hnear : ∃ ys, Near (rowS W n ss i) ys
      · obtain ⟨ys, hys⟩ := hnear
        have hyl := near_len hys
        have hdec := dec_yes HCS.out (c := cD) hsD (by omega) (by omega) hrb hys
        have hsp := nb_split (z := fun i => zP (xA xs i)) hys
        have hdl8 : dl ys (rowS W n ss i) ≤ n := by
          rw [dl_bc (by rw [hyl, hrl]), hyl]; exact bc_le _ _
        obtain ⟨U, hU⟩ : ∃ U, uncN (fun q => zP (xA xs (q * W + i))) (rowS W n ss i) ys n = U := ⟨_, rfl⟩
        have hUn : U ≤ n := by rw [← hU]; exact bc_le _ _
        obtain ⟨M, hM⟩ : ∃ M, nbW W n ss (fun i => zP (xA xs i)) i ys = M := ⟨_, rfl⟩
        have hsp : dl ys (rowS W n ss i) + U = M := by rw [← hM, ← hsp, ← hU]
        obtain ⟨dd, hdd⟩ : ∃ dd, dl ys (rowS W n ss i) = dd := ⟨_, rfl⟩
        rw [hdd] at hsp hdl8 hdec
        obtain ⟨row, hrow⟩ : ∃ row, rowS W n ss i = row := ⟨_, rfl⟩
        rw [hrow] at hdec hrl hcl hsD hcD
        rw [hyl] at hdec
        rw [hrl] at hdec hcl
        obtain ⟨mx, hmxe⟩ : ∃ mx, mxF (fun j => nbW W n ss (fun i => zP (xA xs i)) j (ws j)) i = mx := ⟨_, rfl⟩
        rw [hmxe] at hmx ⊢
        replace hdec := Lib.hid hdec
        replace hrl := Lib.hid hrl
        replace hyl := Lib.hid hyl
        replace hsD := Lib.hid hsD
        have hgr : g < wr.heap.size := hR.vs.lt
        have hpts : ∀ w2, Below wr.heap.size wr w2 → Hid (Calls Try.prog 54 #[.agg #[.int .i64 B, .int .i64 P, .int .i64 (W : Int), .int .i64 (K : Int)], .slice A L c, .int .i64 (i : Int)] w2
            fun e w' => ∃ A' c', e = .returned (.slice A' n c') ∧ Cx w' w'.heap.size A' (colX xs W i n) ∧ Below w2.heap.size w2 w') := fun w2 h2 => by
          have := points_any (B := B) (P := P) (K := K) (c := c) hW (by omega) hlt (H.out.far (hB.trans (h2.mono hB.size))) (by rw [hL.out, hLW.out, hn])
          rw [hL.out, hn] at this
          exact this
        have hunc : ∀ w2 D' C' cD' cC' E' cE', Sl w2 w2.heap.size D' row → Sl w2 w2.heap.size C' ys → Cx w2 w2.heap.size E' (colX xs W i n) → Hid (Calls Try.prog 53 #[.slice D' n cD', .slice C' n cC', .slice E' n cE'] w2
            fun e w' => e = .returned (.int .i64 (U : Int)) ∧ Below w2.heap.size w2 w') := fun w2 D' C' cD' cC' E' cE' h1 h2 h3 => by
          have := uncharged_any (ca := cD') (cb := cC') (cc := cE') h1 h2 h3 hrl.out hyl.out (colX_len _ _ _ _) (by omega)
          rw [← hU, hrow]
          rw [uncN_congr (hZ i hlt)] at this
          exact this
        replace hpts := Lib.hid hpts
        replace hunc := Lib.hid hunc
        have hsum : (dd : Int) + (U : Int) = (M : Int) := by omega
        have harms : True := trivial
        by_cases hM8 : M ≤ 8
        · have hdm : decide ((8 : Int) < (M : Int)) = false := decide_eq_false (by omega)
          go_wp2_with (first
            | (go_at_call 52; (with_reducible refine hdec.out.mono ?_); rintro e w4 ⟨A4, c4, rfl, hc4, hs4, hb4⟩; have hX4 := hX.keep hb4; have hpc := hpts.out w4 hb4; obtain ⟨y1, y2, y3, y4, y5⟩ := id hX4; have hne4 : Hid (True) := Lib.hid trivial)
            | (go_at_call 54; (with_reducible refine hpc.out.mono ?_); rintro e w5 ⟨A5, c5, rfl, hx5, hb5⟩; have hb45 := hb4.trans (hb5.mono hb4.size); have huc := hunc.out w5 D A4 cD c4 A5 c5 (hsD.out.far hb45) (hs4.1.far hb5) hx5)
            | (go_at_call 53; (with_reducible refine huc.out.mono ?_); rintro e w6 ⟨rfl, hb6⟩; have hb46 := hb45.trans (hb6.mono hb45.size); have hR6 := hR.keep hb46; obtain ⟨z1, z2, z3, z4, z5⟩ := hX.keep hb46; obtain ⟨V6, hcl6⟩ : ∃ V, w6.cell? ⟨g, i, none⟩ = some V := ⟨_, hR6.vs.cell hlt⟩; have hfz6 := hR6.vs.frozen i))
          have htk : (ys.take K).length = K := by rw [List.length_take, hyl.out]; omega
          have hs6 : Sl w6 w6.heap.size A4 (ys.take K) := ((hs4.1.far hb5).far hb6).take K
          have hne6 : ys.take K = [] ∨ ∀ a, A4 = some a → a.block ≠ g := by
            rcases hs4.2 with e | ⟨a, e, hlo⟩
            · left; rw [e]; exact List.take_nil
            · right
              intro a' e'
              rw [e] at e'
              injection e' with e'
              rw [← e']
              omega
          have hR7 := hR6.lay hlt (A := A4) (c := c4) (ys := ys.take K) (by rw [htk]; omega) hs6 hne6
          rw [htk] at hR7
          have hwsi : ∀ j, j < i → (if j = i then ys else ws j) = ws j := fun j hj => if_neg (by omega)
          refine ⟨⟨i + 1, fun j => if j = i then ys else ws j, by omega, by go_num, fun j hj => ?_, ?_, ⟨_, hR7.congr fun j hj => ?_⟩, ?_, ?_, ?_⟩, by simp [intOf]; omega⟩
          · by_cases e : j = i
            · subst e
              show GoodR W n ss _ j (if j = j then ys else ws j)
              rw [if_pos rfl]
              exact ⟨hys, by rw [hM]; exact hM8⟩
            · show GoodR W n ss _ j (if j = i then ys else ws j)
              rw [if_neg e]
              exact hG j (by omega)
          · have e : mxF (fun j => nbW W n ss (fun i => zP (xA xs i)) j (if j = i then ys else ws j)) (i + 1) = max mx M := by
              show max (mxF _ i) (nbW W n ss (fun i => zP (xA xs i)) i (if i = i then ys else ws i)) = _
              rw [if_pos rfl, hM, mxF_congr (h := fun j => nbW W n ss (fun i => zP (xA xs i)) j (ws j)) (fun j hj => by show nbW W n ss _ j (if j = i then ys else ws j) = _; rw [hwsi j hj]), hmxe]
            rw [e]
            congr 1
            split <;> omega
          · show (if j = i then ys.take K else if j < i then List.take K (ws j) else rowS W n ss j) = if j < i + 1 then List.take K (if j = i then ys else ws j) else rowS W n ss j
            by_cases e : j = i
            · rw [if_pos e, if_pos (by omega), if_pos e]
            · rw [if_neg e, if_neg e]
              by_cases h : j < i
              · rw [if_pos h, if_pos (by omega)]
              · rw [if_neg h, if_neg (by omega)]
          · exact (hT.keep hb46).other _ _ (by show w.heap.size ≠ g; omega)
          · exact (hX.keep hb46).other _ (by omega)
          · exact (hB.trans (hb46.mono hB.size)).setCell (show w.heap.size ≤ g by omega) _
        · have hdm : decide ((8 : Int) < (M : Int)) = true := decide_eq_true (by omega)
          have hbad : Hid (∃ j, j < W ∧ ∀ zs, ¬ GoodR W (K + 16) ss (fun i => zP (xA xs i)) j zs) := ⟨i, hlt, fun zs hz => by
            rw [hn] at hz
            have e := near_unique (by rw [rowS_len]; omega) hz.1 hys
            have := hz.2
            rw [e, hM] at this
            exact hM8 this⟩
          go_wp2_with (first
            | (go_at_call 52; (with_reducible refine hdec.out.mono ?_); rintro e w4 ⟨A4, c4, rfl, hc4, hs4, hb4⟩; have hX4 := hX.keep hb4; have hpc := hpts.out w4 hb4; obtain ⟨y1, y2, y3, y4, y5⟩ := id hX4)
            | (go_at_call 54; (with_reducible refine hpc.out.mono ?_); rintro e w5 ⟨A5, c5, rfl, hx5, hb5⟩; have hb45 := hb4.trans (hb5.mono hb4.size); have huc := hunc.out w5 D A4 cD c4 A5 c5 (hsD.out.far hb45) (hs4.1.far hb5) hx5)
            | (go_at_call 53; (with_reducible refine huc.out.mono ?_); rintro e w6 ⟨rfl, hb6⟩; have hb46 := hb45.trans (hb6.mono hb45.size)))
          go_ret3
          exact ⟨Or.inl ⟨rfl, hbad.out⟩, hB.trans (hb46.mono hB.size)⟩
      · have hno : ∀ c, ¬ Near (rowS W n ss i) c := fun c hc => hnear ⟨c, hc⟩
        have hdec := dec_no HCS.out (c := cD) hsD (by omega) (by omega) hrb hno
        have hbad : Hid (∃ j, j < W ∧ ∀ zs, ¬ GoodR W (K + 16) ss (fun i => zP (xA xs i)) j zs) := ⟨i, hlt, fun zs hz => by
          rw [hn] at hz
          exact hno zs hz.1⟩
        obtain ⟨row, hrow⟩ : ∃ row, rowS W n ss i = row := ⟨_, rfl⟩
        rw [hrow] at hdec hrl hcl hsD hcD
        rw [hrl] at hdec hcl
        obtain ⟨mx, hmxe⟩ : ∃ mx, mxF (fun j => nbW W n ss (fun i => zP (xA xs i)) j (ws j)) i = mx := ⟨_, rfl⟩
        rw [hmxe] at hmx ⊢
        replace hdec := Lib.hid hdec
        replace hrl := Lib.hid hrl
        go_wp2_with (first
          | (go_at_call 52; (with_reducible refine hdec.out.mono ?_); rintro e w4 ⟨A4, c4, rfl, hb4⟩))
        go_ret3
        exact ⟨Or.inl ⟨rfl, hbad.out⟩, hB.trans (hb4.mono hB.size)⟩
    · obtain rfl : i = W := by omega
      have hd : decide (i < i) = false := decide_eq_false (Nat.lt_irrefl _)
      have hws : ((List.range i).map fun j => if j < i then (ws j).take K else rowS i n ss j) = (List.range i).map fun j => (ws j).take K := by
        refine List.map_congr_left fun j hj => ?_
        rw [if_pos (List.mem_range.1 hj)]
      have hsw := hR.sw
      rw [hws] at hsw
      have hlen : ((List.range i).map fun j => (ws j).take K).length = i := by simp
      have hall : ∀ x ∈ (List.range i).map (fun j => (ws j).take K), x.length = K := by
        intro x hx
        obtain ⟨j, hj, rfl⟩ := List.mem_map.1 hx
        rw [List.length_take, near_len (hG j (List.mem_range.1 hj)).1]
        omega
      have hwN := wvN_all hall (by intro e; rw [e] at hlen; simp at hlen; omega)
      have hE : outE (i : Int) ((List.range i).map fun j => (ws j).take K) = 0 := outE_ok (by unfold mayB; rw [Bool.and_eq_true, decide_eq_true_eq, decide_eq_true_eq]; omega) (by rw [hlen]) (unl_false fun k hk => by rw [hall _ (List.getElem_mem hk), hwN]) (by rw [hwN]; omega)
      have hO : outW (i : Int) ((List.range i).map fun j => (ws j).take K) = sayW i K ws := by unfold outW; rw [hE, if_pos rfl]; rfl
      have hout := out_any (i : Int) (some ⟨g, 0, none⟩) i ((List.range i).map fun j => (ws j).take K) wr hsw (by omega) (fun x hx => by rw [hall x hx]; omega)
      rw [hE, hO, hlen] at hout
      replace hout := Lib.hid hout
      have hc2 := hX.c2
      have hG' : Hid (∀ j, j < i → GoodR i (K + 16) ss (fun i => zP (xA xs i)) j (ws j)) := by rw [hn]; exact hG
      have hmxe : Hid (mxF (fun j => nbW i n ss (fun i => zP (xA xs i)) j (ws j)) i = mxF (fun j => nbW i (K + 16) ss (fun i => zP (xA xs i)) j (ws j)) i) := by rw [hn]; exact Lib.hid rfl
      rw [hmxe.out] at hmx ⊢
      replace hB := Lib.hid hB
      obtain ⟨mx, hmx2⟩ : ∃ mx, Hid (mxF (fun j => nbW i (K + 16) ss (fun i => zP (xA xs i)) j (ws j)) i = mx) := ⟨_, Lib.hid rfl⟩
      rw [hmx2.out] at hmx ⊢
      clear hsw hR hT hX hlen hall hE hO hws hG hwN
      go_wp2_with (go_at_call 45; (with_reducible refine hout.out.mono ?_); rintro e w2 ⟨v2, rfl, ho2, hb2⟩)
      go_ret3
      refine ⟨Or.inr ⟨v2, ws, ?_, hG'.out, ho2.low hB.out.size⟩, hB.out.trans (hb2.mono hB.out.size)⟩
      rw [hmx2.out]
      rfl
end Go.Proofs.Ytbggjlgdgpemkaa
