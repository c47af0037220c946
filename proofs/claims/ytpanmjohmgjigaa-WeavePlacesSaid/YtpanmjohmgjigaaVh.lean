/- The reference's In, walked. -/
import Derived.Test.YtpanmjohmgjigaaVg
namespace Go.Proofs.Ytpanmjohmgjigaa
open Go.RowKit Go.Gf
attribute [local go_sem ↓] Cl.quiet_since

set_option maxHeartbeats 4000000 in
theorem refin_any (W : Int) (A : Option Addr) (c : Nat) (xs : List Nat) (w : World) (h : Sl w w.heap.size A xs) (hl : xs.length ≤ 1000000) :
    Calls Try.prog 12 #[.int .i64 W, .slice A xs.length c] w (RowsV w (inW W xs) (inE W xs)) := by
  have H := Lib.hid h
  clear h
  obtain ⟨b1, d1⟩ : ∃ b, decide (W < 1) = b := ⟨_, rfl⟩
  obtain ⟨b2, d2⟩ : ∃ b, decide (4 < W) = b := ⟨_, rfl⟩
  by_cases hb : b1 = false ∧ b2 = false
  · obtain ⟨rfl, rfl⟩ := hb
    rw [decide_eq_false_iff_not] at d1 d2
    have h1 : mayB W = true := by unfold mayB; rw [Bool.and_eq_true, decide_eq_true_eq, decide_eq_true_eq]; omega
    obtain ⟨V, rfl⟩ : ∃ V : Nat, W = (V : Int) := ⟨W.toNat, by omega⟩
    have hV4 := mayB_nat h1
    have hV0 : (V : Int) ≠ 0 := by omega
    have d1 : decide ((V : Int) < 1) = false := by rw [decide_eq_false_iff_not]; omega
    have d2 : decide ((4 : Int) < (V : Int)) = false := by rw [decide_eq_false_iff_not]; omega
    obtain ⟨r, hr⟩ : ∃ r, xs.length % V = r := ⟨_, rfl⟩
    have hrI : (xs.length : Int) % (V : Int) = (r : Int) := by rw [← hr]; exact (Int.natCast_emod _ _).symm
    by_cases h2 : r ≠ 0 ∨ xs.length = 0
    · have hE := Lib.hid (inE_size (s := xs) h1 (by rw [Int.toNat_natCast, hr]; exact h2))
      have hR : Hid (inW (V : Int) xs = []) := by unfold Hid inW; rw [hE.out]; rfl
      rw [hE.out, hR.out]
      by_cases h3 : xs.length = 0
      · have z : ((xs.length : Int) == 0) = true := by rw [beq_iff_eq]; omega
        clear h1 h2 h3 hE hR hr hrI
        go_enter Try.func12, Try.ntmps12
        go_wp2_with fail
        go_ret2
        exact RowsV.nil _ _
      · have z : ((xs.length : Int) == 0) = false := by rw [beq_eq_false_iff_ne]; omega
        have z2 : ((xs.length : Int) % (V : Int) != 0) = true := by rw [hrI]; simp; omega
        clear h1 h2 h3 hE hR hr hrI
        go_enter Try.func12, Try.ntmps12
        go_wp2_with fail
        go_ret2
        exact RowsV.nil _ _
    · have hE := Lib.hid (inE_ok (s := xs) h1 (by rw [Int.toNat_natCast, hr]; exact h2))
      have hR : Hid (inW (V : Int) xs = dealt V xs) := by unfold Hid inW; rw [hE.out]; rfl
      rw [hE.out, hR.out]
      have z : ((xs.length : Int) == 0) = false := by rw [beq_eq_false_iff_ne]; omega
      have z2 : ((xs.length : Int) % (V : Int) != 0) = false := by rw [hrI]; simp; omega
      have hVn : Hid (xs.length = V * (xs.length / V)) := by unfold Hid; have := Nat.div_add_mod xs.length V; omega
      have hmk : ∀ w, (Instr.makeSlice 22 (.int .i64 (V : Int)) (.int .i64 (V : Int))).run Try.prog w = .ok (.slice (some ⟨w.heap.size, 0, none⟩) V V) (w.alloc (.cells (madeCells #[.slice none 0 0] V) 23)) :=
        run_make_row' (P := Try.prog) 22 23 (.slice none 0 0) 24 Try.underlying22 info23w rfl .i64 .i64 V (by omega) (by omega)
      clear h1 h2 hE hR hr hrI
      go_enter Try.func12, Try.ntmps12
      go_wp2_with fail
      have hO0 : Hid (OwnW w (w.alloc (.cells (madeCells #[.slice none 0 0] V) 23)) w.heap.size V (fun _ => .slice none 0 0) (fun j => rm (cn V j 0) fun q => at_ xs (q * V + j))) :=
        (OwnW.start w V).congr fun j hj => by rw [cn_zero hj]; rfl
      go_loopw [7] (fun q wr => ∃ i : Nat, i ≤ xs.length ∧ q = .int .i64 i ∧ Below w.heap.size w wr ∧ ∃ f, OwnW w wr w.heap.size V f (fun j => rm (cn V j i) fun q => at_ xs (q * V + j))) (fun q _ => xs.length - (intOf q).toNat)
      case atStart => exact ⟨0, Nat.zero_le _, rfl, below_alloc _ _, _, hO0.out⟩
      case round =>
        clear hO0 hmk
        obtain ⟨i, hi, rfl, HB, f, HO⟩ := hrel
        replace HO := Lib.hid HO
        replace HB := Lib.hid HB
        by_cases hlt : i < xs.length
        · have hiI : (i : Int) < (xs.length : Int) := by omega
          have hd : decide (i < xs.length) = true := decide_eq_true hlt
          have hp := Nat.mod_lt i (show 0 < V by omega)
          obtain ⟨p, hpp⟩ : ∃ p, i % V = p := ⟨_, rfl⟩
          have hpI : (i : Int) % (V : Int) = (p : Int) := by rw [← hpp]; exact (Int.natCast_emod _ _).symm
          have hcs : Hid (cn V p i = i / V) := by rw [← hpp]; exact Lib.hid (cn_at (by omega))
          rw [hpp] at hp
          have hpV : (p : Int) < (V : Int) := by omega
          obtain ⟨a, rfl, hab, hcell⟩ := (H.out.below HB.out).at_ hlt
          have hx16 := H.out.1 xs[i] (List.getElem_mem hlt)
          obtain ⟨X, hX⟩ : ∃ X, Hid (xs[i] = X) := ⟨_, Lib.hid rfl⟩
          rw [hX.out] at hcell hx16
          have hrow : Hid ((rm (cn V p i) fun q => at_ xs (q * V + p)) ++ [X] = rm (cn V p (i + 1)) fun q => at_ xs (q * V + p)) := by
            unfold Hid
            rw [cn_step hp, if_pos hpp.symm, rm_succ, hcs.out, (divmod_eq hp).2 ⟨hpp.symm, rfl⟩, at_get hlt, hX.out]
          have hoth : Hid (∀ j, j < V → j ≠ p → cn V j (i + 1) = cn V j i) := fun j hj hne => by
            rw [cn_step hj, if_neg (fun e => hne (e.trans hpp))]
          have hlen : Hid ((rm (cn V p i) fun q => at_ xs (q * V + p)).length + 1 ≤ 1000000) := by
            unfold Hid
            rw [rm_len, hcs.out]
            have : i / V ≤ i := Nat.div_le_self _ _
            omega
          go_wp2_with fail
          refine Cl.region_way0 (fun b => b ≤ w.heap.size) 17 [(0, .r), (1, .r), (2, .r), (3, .r), (4, .r), (5, .r), (6, .r), (7, .r), (8, .r), (9, .r), (10, .r), (11, .r), (12, .r), (13, .r), (14, .c), (15, .c), (16, .r), (17, .z)] (by kernel_rfl) (by kernel_rfl) ?_
          intro w1 hks
          have HO1 := Lib.hid (HO.out.keep (Cl.Keeps.below hks))
          have HB1 := Lib.hid (HB.out.trans ((Cl.Keeps.below hks).mono HB.out.size))
          have hcS : ∀ y : Cl.Since (fun b => b ≤ w.heap.size) w1, y.w.cell? (a.add i) = some (.int .u16 ((X : Nat) : Int)) := fun y => by
            rw [y.cell (by rw [add_block]; have := HB1.out.size; omega) (by rw [add_block]; omega), HB1.out.cell (by rw [add_block]; exact hab), ← HB.out.cell (by rw [add_block]; exact hab)]
            exact hcell
          have hcO : ∀ y : Cl.Since (fun b => b ≤ w.heap.size) w1, y.w.cell? ⟨w.heap.size, p, none⟩ = some (f p) := fun y => by
            rw [y.cell HO1.out.vs.lt (Nat.le_refl _)]
            exact HO1.out.vs.cell hp
          iterate 14 (refine Cl.way_r rfl ?_; go_big_quiet_step (fail); refine wpQuiet_nil ?_)
          clear hks hcS hcO HO HB
          refine Cl.way_c rfl ?_
          have hq := Lib.hid (sl_new w1 (.cells #[.int .u16 ((X : Nat) : Int)] 37) [X] w1.heap.size rfl rfl (by simp; exact hx16))
          have hb2 := Lib.hid (below_alloc w1 (.cells #[.int .u16 ((X : Nat) : Int)] 37))
          have HO2 := Lib.hid (HO1.out.alloc (.cells #[.int .u16 ((X : Nat) : Int)] 37))
          have HB2 := Lib.hid (HB1.out.trans (hb2.out.mono HB1.out.size))
          go_wp2_with fail
          refine Cl.way_on (Cl.Keeps.of_below hb2.out) ?_
          generalize w1.alloc (.cells #[.int .u16 ((X : Nat) : Int)] 37) = w2 at hq hb2 HO2 HB2 ⊢
          generalize w1.heap.size = gx at hq ⊢
          refine Cl.way_c rfl ?_
          refine app_own (w0 := w) rfl (.tmp 41) (.tmp 46) rfl (f p) _ rfl (HO2.out.own p hp) HB2.out.size ⟨gx, 0, none⟩ 1 [X] rfl hq.out hlen.out ?_
          intro v' w3 hv hg hn
          obtain ⟨A', c', rfl, _, _⟩ := hv.sl
          have hoff : (f p).ownBlock ≠ some w.heap.size := HO2.out.off p hp
          have hge : ∀ k, (f p).ownBlock = some k → w.heap.size ≤ k := OwnS.block (HO2.out.own p hp)
          have hvs3 : Vs w3 w.heap.size V f := HO2.out.vs.keep (hg.block _ HO2.out.vs.lt (fun e => hoff e.symm))
          have hK : Hid (Cl.Keeps (fun b => b ≤ w.heap.size) w2 w3) := ⟨hg.os, hg.tape, hg.output, hg.size, fun b hb hk => hg.block b hb fun e => by
            have h1 := hge b e.symm
            exact hoff (by rw [← e, show b = w.heap.size by omega])⟩
          have HB3 := Lib.hid ((HB2.out.grown hg HB2.out.size hge).setCell (p := ⟨w.heap.size, p, none⟩) (Nat.le_refl _) (.slice A' ((rm (cn V p i) fun q => at_ xs (q * V + p)) ++ [X]).length c'))
          have HO3 := Lib.hid ((HO2.out.step hp hv hg hn).congr (ws' := fun j => rm (cn V j (i + 1)) fun q => at_ xs (q * V + j)) (fun j hj => by
            show (if j = p then _ else _) = _
            by_cases e : j = p
            · rw [if_pos e, hrow.out, e]
            · rw [if_neg e, hoth.out j hj e]))
          have hc3 := hvs3.cell hp
          generalize ((rm (cn V p i) fun q => at_ xs (q * V + p)) ++ [X]).length = L at HB3 HO3 ⊢
          have hf3 := hvs3.frozen p
          clear hv hg hn hoff hge hvs3 HO2 HB2 hq hb2 HO1 HB1
          go_wp2_with fail
          refine Cl.way_on hK.out ?_
          refine Cl.way_r rfl ?_
          go_big_quiet_step (fail)
          refine wpQuiet_nil ?_
          refine Cl.way_z rfl ?_
          clear hK
          go_wp2_with fail
          refine Cl.Calm.normal ?_
          go_wp2_with fail
          go_roundw
          case rel => exact ⟨i + 1, by omega, by go_num, HB3.out, _, HO3.out⟩
          case measure => simp [intOf]; omega
        · obtain rfl : i = xs.length := by omega
          have hd : decide (xs.length < xs.length) = false := decide_eq_false (Nat.lt_irrefl _)
          have HO2 : Hid (OwnW w wr w.heap.size V f (fun j => (dealt V xs).getD j [])) := HO.out.congr fun j hj => by
            rw [dealt_at hj]
            have e := cn_end (n := xs.length / V) hj
            rw [← hVn.out] at e
            rw [e]
          clear HO
          go_wp2_with fail
          go_ret2
          refine ⟨Or.inr ⟨w.heap.size, f, by rw [dealt_len]; rfl, by rw [dealt_len]; exact HO2.out⟩, HB.out⟩
  · have hor : mayB W = false := by
      unfold mayB
      rw [Bool.and_eq_false_iff, decide_eq_false_iff_not, decide_eq_false_iff_not]
      rcases Classical.em (W < 1) with e2 | e2
      · omega
      · rcases Classical.em (4 < W) with e3 | e3
        · omega
        · exact absurd ⟨by rw [← d1, decide_eq_false_iff_not]; exact e2, by rw [← d2, decide_eq_false_iff_not]; exact e3⟩ hb
    have hE := Lib.hid (inE_arg (s := xs) hor)
    have hR : Hid (inW W xs = []) := by unfold Hid inW; rw [hE.out]; rfl
    rw [hE.out, hR.out]
    clear hE hR hor
    cases b1
    · cases b2
      · exact absurd ⟨rfl, rfl⟩ hb
      · go_enter Try.func12, Try.ntmps12
        go_wp2_with fail
        go_ret2
        exact RowsV.nil _ _
    · go_enter Try.func12, Try.ntmps12
      go_wp2_with fail
      go_ret2
      exact RowsV.nil _ _
end Go.Proofs.Ytpanmjohmgjigaa
