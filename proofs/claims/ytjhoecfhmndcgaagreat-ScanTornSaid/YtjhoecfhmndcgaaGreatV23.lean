/- The reference's encoder. · The reference's decoder. -/
import Derived.Test.YtjhoecfhmndcgaaGreatV22
import Derived.Test.YtjhoecfhmndcgaaGreatV17
import Derived.Test.YtjhoecfhmndcgaaGreatV06
namespace Go.Proofs.YtjhoecfhmndcgaaGreat
open Go.RowKit Go.Gf
attribute [local go_sem ↓] Cl.quiet_since

/-- what Encode answers: an error's number, and a word -/
def encE (xs : List Nat) : Nat := if xs.length = 0 ∨ 1007 < xs.length then 3 else if xs.any (fun x => decide (1024 ≤ x)) = true then 1 else 0
def encW (xs : List Nat) : List Nat := if encE xs = 0 then enc xs else []
theorem encE_size {xs : List Nat} (h : xs.length = 0 ∨ 1007 < xs.length) : encE xs = 3 := by unfold encE; rw [if_pos h]
theorem encE_big {xs : List Nat} (h : ¬ (xs.length = 0 ∨ 1007 < xs.length)) {k : Nat} (hk : k < xs.length) (hb : 1024 ≤ xs[k]) : encE xs = 1 := by
  unfold encE
  rw [if_neg h, if_pos]
  exact List.any_eq_true.2 ⟨xs[k], List.getElem_mem hk, by simpa using hb⟩
theorem encE_ok {xs : List Nat} (h : ¬ (xs.length = 0 ∨ 1007 < xs.length)) (hb : ∀ k (h : k < xs.length), xs[k] < 1024) : encE xs = 0 := by
  unfold encE
  rw [if_neg h, if_neg]
  intro e
  obtain ⟨x, hx, h2⟩ := List.any_eq_true.1 e
  obtain ⟨k, hk, rfl⟩ := List.getElem_of_mem hx
  have := hb k hk
  simp at h2; omega
/-- a slice and an error's number -/
def RowE (w : World) (ys : List Nat) (n : Nat) (e : Ending) (w' : World) : Prop := ∃ A c, e = .returned (.tuple #[.slice A ys.length c, .int .i64 (n : Int)]) ∧ ys.length ≤ c ∧ Sl w' w'.heap.size A ys ∧ Below w.heap.size w w'
theorem mrow_zero (f : Nat → Nat) (ys : List Nat) (i k j : Nat) : mrow f 0 ys i k j = f j := by
  rw [mrow_at]
  split
  · rw [gm_zero_left, Nat.xor_zero]
  · rw [Nat.xor_zero]
set_option maxHeartbeats 8000000 in
set_option maxRecDepth 20000 in
theorem refenc_any (A : Option Addr) (c : Nat) (xs : List Nat) (w : World) (h : Sl w w.heap.size A xs) (hl : xs.length ≤ 1000000) :
    Calls Tryz.prog 34 #[.slice A xs.length c] w (RowE w (encW xs) (encE xs)) := by
  have H := Lib.hid h
  clear h
  by_cases hsz : xs.length = 0 ∨ 1007 < xs.length
  · have e1 := Lib.hid (encE_size hsz)
    have e2 : Hid (encW xs = []) := by unfold Hid encW; rw [e1.out]; rfl
    have hc : ∃ b1 b2 : Bool, ((xs.length : Int) == 0) = b1 ∧ decide ((1007 : Int) < (xs.length : Int)) = b2 ∧ (b1 || b2) = true := by
      refine ⟨_, _, rfl, rfl, ?_⟩
      simp only [Bool.or_eq_true, beq_iff_eq, decide_eq_true_eq]; omega
    obtain ⟨b1, b2, d1, d2, hor⟩ := hc
    replace hor := Lib.hid hor
    clear hsz
    cases b1
    · cases b2
      · exact absurd hor.out (by decide)
      · go_enter Tryz.func34, Tryz.ntmps34
        go_wp2_with fail
        go_ret2
        rw [e1.out, e2.out]
        exact ⟨none, 0, rfl, Nat.le_refl _, Sl.nil _ _ _, Below.refl _ _⟩
    · go_enter Tryz.func34, Tryz.ntmps34
      go_wp2_with fail
      go_ret2
      rw [e1.out, e2.out]
      exact ⟨none, 0, rfl, Nat.le_refl _, Sl.nil _ _ _, Below.refl _ _⟩
  · have hbig : Hid (∀ k (h : k < xs.length), 1024 ≤ xs[k] → encE xs = 1 ∧ encW xs = []) := fun k hk hb => by
      have e := encE_big hsz hk hb
      exact ⟨e, by unfold encW; rw [e]; rfl⟩
    have hok : Hid ((∀ k (h : k < xs.length), xs[k] < 1024) → encE xs = 0 ∧ encW xs = enc xs) := fun hb => by
      have e := encE_ok hsz hb
      exact ⟨e, by unfold encW; rw [if_pos e]⟩
    have d1 : ((xs.length : Int) == 0) = false := by rw [beq_eq_false_iff_ne]; omega
    have d2 : decide ((1007 : Int) < (xs.length : Int)) = false := by rw [decide_eq_false_iff_not]; omega
    have hl2 : xs.length ≤ 1007 := by omega
    have hl1 : 1 ≤ xs.length := by omega
    clear hsz
    generalize encE xs = EE at *
    generalize encW xs = EW at *
    go_enter Tryz.func34, Tryz.ntmps34
    go_wp2_with fail
    go_loop [4] (fun n => ∃ k : Nat, k ≤ xs.length ∧ Hid (∀ j (h : j < xs.length), j < k → xs[j] < 1024) ∧ n = .int .i64 k) (fun n => xs.length - (intOf n).toNat)
    case atStart => exact ⟨0, Nat.zero_le _, Lib.hid (fun j _ h => absurd h (by omega)), rfl⟩
    case round =>
      obtain ⟨k, hk, HK, rfl⟩ := hrel
      by_cases hlt : k < xs.length
      · obtain ⟨a, rfl, hab, hcell⟩ := H.out.at_ hlt
        have hx := H.out.1 xs[k] (List.getElem_mem hlt)
        by_cases hb : 1024 ≤ xs[k]
        · obtain ⟨e1, e2⟩ := hbig.out k hlt hb
          replace e1 := Lib.hid e1
          replace e2 := Lib.hid e2
          have hd : decide ((1024 : Int) ≤ (xs[k] : Int)) = true := by rw [decide_eq_true_eq]; omega
          clear hb
          go_wp2_with fail
          go_ret2
          rw [e1.out, e2.out]
          exact ⟨none, 0, rfl, Nat.le_refl _, Sl.nil _ _ _, Below.refl _ _⟩
        · have hd : decide ((1024 : Int) ≤ (xs[k] : Int)) = false := by rw [decide_eq_false_iff_not]; omega
          have HK' : Hid (∀ j (h : j < xs.length), j < k + 1 → xs[j] < 1024) := fun j hj hjk => by
            rcases Nat.lt_or_ge j k with h1 | h1
            · exact HK.out j hj h1
            · obtain rfl : j = k := by omega
              omega
          clear hb HK
          go_wp2_with fail
          go_round
          case rel => exact ⟨k + 1, by omega, HK', by go_num⟩
          case measure => simp [intOf]; omega
      · obtain rfl : k = xs.length := by omega
        obtain ⟨e1, e2⟩ := hok.out (fun j hj => HK.out j hj hj)
        have HX : Hid (∀ x ∈ xs, x < 1024) := fun x hx => by
          obtain ⟨j, hj, rfl⟩ := List.getElem_of_mem hx
          exact HK.out j hj hj
        replace e1 := Lib.hid e1
        replace e2 := Lib.hid e2
        clear hbig hok HK
        obtain ⟨n, hn⟩ : ∃ n, n = xs.length + 16 := ⟨_, rfl⟩
        have hnI : (xs.length : Int) + 16 = (n : Int) := by omega
        have hmk : ∀ w, (Instr.makeSlice 41 (.int .i64 (n : Int)) (.int .i64 (n : Int))).run Tryz.prog w = .ok (.slice (some ⟨w.heap.size, 0, none⟩) n n) (w.alloc (.cells (madeCells #[.int .u16 0] n) 46)) :=
          run_make_row' (P := Tryz.prog) 41 46 (.int .u16 0) 2 Tryz.underlying41 info22 rfl .i64 .i64 n (by omega) (by omega)
        have HN := Lib.hid hn
        have hn6 : n ≤ 1023 := by omega
        have hxn : Hid (xs.length ≤ n) := by unfold Hid; omega
        clear hn
        go_wp2_with fail
        refine (refgen_any w).mono ?_
        rintro e w2 ⟨P, c2, rfl, hpc, hP, hb2⟩
        rw [gens_len] at hpc ⊢
        replace hP := Lib.hid hP
        replace hb2 := Lib.hid hb2
        clear hpc
        have HX2 := Lib.hid (H.out.far hb2.out)
        go_wp2_with (refine wpList_copy_splice rfl (.tmp 34) (.tmp 35) 41 41 rfl 46 Tryz.underlying41 size23 (some ⟨w2.heap.size, 0, none⟩) A n n xs.length c rfl rfl w2.heap.size 0 ((List.replicate n 0).map uv) 46 (by have := heap_alloc_new w2 (.cells (madeCells #[.int .u16 0] n) 46); rw [made_uv] at this; rw [made_uv]; exact this) (xs.map uv) (by have := hxn.out; rw [List.length_map]; exact (Nat.min_eq_left this).symm) (by
          intro hp
          rw [List.length_map] at hp
          refine ⟨rfl, ?_⟩
          obtain ⟨a, e, hab, hcell⟩ := ((HX2.out.far (own_start w2 n).2.1).2.resolve_left (by intro e; rw [e] at hp; exact absurd hp (by decide)))
          refine ⟨a, e, fun j v hv => ?_⟩
          rw [List.getElem?_map] at hv
          rcases Nat.lt_or_ge j xs.length with hj | hj
          · rw [List.getElem?_eq_getElem hj] at hv
            injection hv with hv
            rw [← hv]; exact hcell j hj
          · rw [List.getElem?_eq_none hj] at hv; cases hv) (by have := hxn.out; simp; exact this) (by intro v hv; obtain ⟨x, _, rfl⟩ := List.mem_map.1 hv; rfl) w2.heap.size w2 (own_start w2 n).2.1 (Nat.le_refl _) ?_)
        rintro w3 HC1 HB1
        have HO1 : Own w2 w3 w2.heap.size n (er xs 0) := by
          refine ⟨Nat.le_refl _, HB1, ?_⟩
          have e := HC1.out
          rw [← List.map_replicate, splice_own xs n hxn.out] at e
          unfold Arr
          rw [e]
          congr 5
        clear HC1 HB1 hmk
        go_wp2_with fail
        go_loopw [7] (fun q wr => ∃ i : Nat, i ≤ xs.length ∧ q = .int .i64 i ∧ Own w2 wr w2.heap.size n (er xs i)) (fun q _ => xs.length - (intOf q).toNat)
        case atStart => exact ⟨0, Nat.zero_le _, rfl, HO1⟩
        case round =>
          clear HO1
          obtain ⟨i, hi, rfl, HO⟩ := hrel
          by_cases hlt : i < xs.length
          · have hin : i < n := by have := HN.out; omega
            have hin16 : i + 16 < n := by have := HN.out; omega
            have hc0 := HO.cell hin
            have hF1 := er_lt HX.out i i
            obtain ⟨F, hF⟩ : ∃ F, Hid (er xs i i = F) := ⟨_, Lib.hid rfl⟩
            rw [hF.out] at hc0 hF1
            have HO0 := Lib.hid (HO.congr (f' := mrow (er xs i) F (gens 16).reverse i 0) (fun _ _ => rfl))
            have hlast : Hid (∀ j, mrow (er xs i) F (gens 16).reverse i 17 j = er xs (i + 1) j) := fun j => by
              show _ = mrow (er xs i) (er xs i i) (gens 16).reverse i 17 j
              rw [hF.out]
            clear HO
            by_cases hF0 : F = 0
            · have hz : ((F : Int) != 0) = false := by simp [hF0]
              have HO' : Hid (∀ wr, Own w2 wr w2.heap.size n (mrow (er xs i) F (gens 16).reverse i 0) → Own w2 wr w2.heap.size n (er xs (i + 1))) := fun wr h => h.congr fun j _ => by
                rw [← hlast.out j, hF0, mrow_zero, mrow_zero]
              clear hF0
              go_wp2_with fail
              go_loopw [9] (fun q wr => q = .int .i64 0 ∧ Own w2 wr w2.heap.size n (mrow (er xs i) F (gens 16).reverse i 0)) (fun q _ => 0)
              case atStart => exact ⟨rfl, HO0.out⟩
              case round =>
                obtain ⟨rfl, HO⟩ := hrel
                have HO2 := Lib.hid (HO'.out _ HO)
                clear HO HO'
                go_wp2_with fail
                go_roundw
                case rel => exact ⟨i + 1, by omega, by go_num, HO2.out⟩
                case measure => simp [intOf]; omega
            · have hz : ((F : Int) != 0) = true := by simp; omega
              clear hF0
              go_wp2_with fail
              go_loopw [9] (fun q wr => ∃ t : Nat, t ≤ 17 ∧ q = .int .i64 t ∧ Own w2 wr w2.heap.size n (mrow (er xs i) F (gens 16).reverse i t)) (fun q _ => 17 - (intOf q).toNat)
              case atStart => exact ⟨0, Nat.zero_le _, rfl, HO0.out⟩
              case round =>
                clear HO0
                obtain ⟨t, ht, rfl, HO⟩ := hrel
                by_cases ht16 : t ≤ 16
                · have hd : decide ((t : Int) ≤ 16) = true := by rw [decide_eq_true_eq]; omega
                  clear hlast
                  obtain ⟨k1, hk1⟩ : ∃ k1, Hid (k1 = i + t) := ⟨_, Lib.hid rfl⟩
                  have hk1I : (i : Int) + (t : Int) = (k1 : Int) := by have := hk1.out; omega
                  have hk1n : k1 < n := by have := hk1.out; omega
                  obtain ⟨m, hm⟩ : ∃ m, Hid (m = 16 - t) := ⟨_, Lib.hid rfl⟩
                  have hmI : (16 : Int) - (t : Int) = (m : Int) := by have := hm.out; omega
                  have hm17 : m < 17 := by have := hm.out; omega
                  obtain ⟨V, hV⟩ : ∃ V, Hid (mrow (er xs i) F (gens 16).reverse i t k1 = V) := ⟨_, Lib.hid rfl⟩
                  have hV1 : V < 1024 := by rw [← hV.out]; exact mrow_lt (fun j => er_lt HX.out i j) hF1 _ _
                  obtain ⟨G, hG⟩ : ∃ G, Hid (at_ (gens 16) m = G) := ⟨_, Lib.hid rfl⟩
                  have hG1 : G < 1024 := by rw [← hG.out]; exact gens_lt m
                  obtain ⟨M, hM⟩ : ∃ M, Hid (gm F G = M) := ⟨_, Lib.hid rfl⟩
                  have hM1 : M < 1024 := by rw [← hM.out]; exact gm_lt _ hF1
                  have hmul : ∀ w, Calls Tryz.prog 57 #[.int .u16 (F : Int), .int .u16 (G : Int)] w fun e w' => e = .returned (.int .u16 (M : Int)) ∧ w = w' := fun w => by
                    have := refmul_any (F : Int) (G : Int) w (by omega) (by omega) (by omega) (by omega)
                    rwa [mulI_nat hF1 hG1, hM.out] at this
                  have hxor := u16_xor_nat V M (by omega) (by omega)
                  have hnext : Hid (∀ j, (if j = k1 then V ^^^ M else mrow (er xs i) F (gens 16).reverse i t j) = mrow (er xs i) F (gens 16).reverse i (t + 1) j) := fun j => by
                    conv => rhs; unfold mrow
                    by_cases e : j = k1
                    · have e2 : j = i + t := by rw [e, hk1.out]
                      have e3 : mrow (er xs i) F (gens 16).reverse i t j = V := by rw [e]; exact hV.out
                      rw [if_pos e, if_pos e2, e3]
                      congr 1
                      rw [← hM.out, ← hG.out, at_reverse (by rw [gens_len]; omega), gens_len, hm.out]
                    · rw [if_neg e, if_neg (by have := hk1.out; omega)]
                  generalize V ^^^ M = Z at *
                  have HR := Lib.hid HO
                  clear HO
                  have hPlen : Hid ((gens 16).length = 17) := Lib.hid gens_len
                  go_wp2_with fail
                  refine Cl.region_way (fun _ => True) 19 [(0, .r), (1, .r), (2, .r), (3, .r), (4, .r), (5, .r), (6, .r), (7, .r), (8, .r), (9, .r), (10, .r), (11, .r), (12, .r), (13, .r), (14, .r), (15, .r), (16, .c), (17, .r), (18, .r), (19, .z)] (by kernel_rfl) (by kernel_rfl) ?_
                  intro w4 hk4
                  have hbw4 := (HR.out.2.1).trans ((Cl.Keeps.below hk4).mono HR.out.2.1.size)
                  have hA4 : Arr w4 w2.heap.size (rm n (mrow (er xs i) F (gens 16).reverse i t)) := (hk4.block _ HR.out.2.2.lt trivial).trans HR.out.2.2
                  obtain ⟨ad, hPe, _, hcg⟩ := (hP.out.far hbw4).at_ (i := m) (by rw [gens_len]; exact hm17)
                  subst hPe
                  have hcA : ∀ y : Cl.Since (fun _ => True) w4, y.w.cell? ⟨w2.heap.size, k1, none⟩ = some (.int .u16 (V : Int)) := fun y => by
                    rw [← hV.out]
                    exact arr_rm_cell ((y.keeps.block _ hA4.lt trivial).trans hA4) hk1n
                  have hcB : ∀ y : Cl.Since (fun _ => True) w4, y.w.cell? (ad.add m) = some (.int .u16 (G : Int)) := fun y => by
                    rw [(Cl.Keeps.below y.keeps).cell (World.block_lt_of_cell? w4 _ hcg), hcg, ← hG.out, at_get (by rw [gens_len]; exact hm17)]
                  iterate 16 (refine Cl.way_r rfl ?_; go_big_quiet_step (fail); refine wpQuiet_nil ?_)
                  clear hcA hcB hcg
                  refine Cl.way_c rfl ?_
                  replace hbw4 := Lib.hid hbw4
                  have hc4 := arr_rm_cell hA4 hk1n
                  have hf4 := hA4.frozen k1
                  have HO2 : Own w2 (w4.setCell ⟨w2.heap.size, k1, none⟩ (.int .u16 (Z : Int))) w2.heap.size n (mrow (er xs i) F (gens 16).reverse i (t + 1)) :=
                    (Own.set_ ⟨Nat.le_refl _, hbw4.out, hA4⟩ k1 Z).congr fun j _ => hnext.out j
                  replace HO2 := Lib.hid HO2
                  replace hA4 := Lib.hid hA4
                  go_wp2_with (go_at_call 57; (with_reducible refine (hmul _).mono ?_); rintro e w5 ⟨rfl, rfl⟩)
                  refine Cl.way_on (Cl.Keeps.refl _ _) ?_
                  iterate 2 (refine Cl.way_r rfl ?_; go_big_quiet_step (fail); refine wpQuiet_nil ?_)
                  refine Cl.way_z rfl ?_
                  clear hk4
                  go_wp2_with fail
                  refine Cl.Calm.normal ?_
                  go_wp2_with fail
                  go_roundw
                  case rel => exact ⟨t + 1, by omega, by go_num, HO2.out⟩
                  case measure => simp [intOf]; omega
                · have hd : decide ((t : Int) ≤ 16) = false := by rw [decide_eq_false_iff_not]; omega
                  have ht17 : t = 17 := by omega
                  have HO2 := Lib.hid (HO.congr (f' := er xs (i + 1)) (fun j _ => by rw [ht17]; exact hlast.out j))
                  clear HO ht17
                  go_wp2_with fail
                  go_roundw
                  case rel => exact ⟨i + 1, by omega, by go_num, HO2.out⟩
                  case measure => simp [intOf]; omega
          · obtain rfl : i = xs.length := by omega
            have HR := Lib.hid HO
            have hst := slice_tail w2.heap.size n n xs.length (by have := HN.out; omega) (by have := HN.out; omega)
            have hz16 : n - xs.length = 16 := by have := HN.out; omega
            rw [hz16] at hst
            have hxne : xs ≠ [] := by intro e; rw [e] at hl1; simp at hl1
            clear HO hi hz16
            go_wp2_with fail
            refine Cl.region_way (fun b => b < wr.heap.size) 9 [(0, .r), (2, .r), (3, .r), (4, .r), (5, .r), (1, .c), (6, .c), (7, .r), (8, .r)] (by kernel_rfl) (by kernel_rfl) ?_
            intro w4 hk4
            have hbw4 : Below w2.heap.size w2 w4 := HR.out.2.1.trans ⟨hk4.os, hk4.tape, hk4.output, hk4.size, fun b hb => hk4.block b (by have := HR.out.2.1.size; omega) (by have := HR.out.2.1.size; omega)⟩
            have hA4 : Arr w4 w2.heap.size (rm n (er xs xs.length)) := (hk4.block _ HR.out.2.2.lt HR.out.2.2.lt).trans HR.out.2.2
            iterate 5 (refine Cl.way_r rfl ?_; go_big_quiet_step (fail); refine wpQuiet_nil ?_)
            refine Cl.way_c rfl ?_
            refine app_law (w0 := w4) rfl (.const (.slice none 0 0)) (.tmp 74) rfl (.slice none 0 0) [] rfl (OwnS.nil w4 w4) (Below.refl _ _) A c xs xs.length rfl rfl (HX2.out.far hbw4) hxne (by simp; omega) ?_
            rintro v1 w5 h1 h2 - h3
            rw [List.nil_append] at h1
            have h3b := Lib.hid (h3 rfl)
            clear h3
            replace h1 := Lib.hid h1
            replace h2 := Lib.hid h2
            go_wp2_with fail
            refine Cl.way_on (Cl.Keeps.of_below h3b.out) ?_
            refine Cl.way_c rfl ?_
            have hz5 : Sl w5 w5.heap.size (some ⟨w2.heap.size, xs.length, none⟩) (rm 16 fun t => er xs xs.length (xs.length + t)) := by
              refine ⟨rm_mem fun j _ => by have := er_lt HX.out xs.length (xs.length + j); omega, Or.inr ⟨_, rfl, Nat.lt_of_lt_of_le hA4.lt h3b.out.size, fun i hi => ?_⟩⟩
              rw [rm_len] at hi
              have e : (⟨w2.heap.size, xs.length, none⟩ : Addr).add i = ⟨w2.heap.size, xs.length + i, none⟩ := by unfold Addr.add; split <;> simp_all
              rw [e, rm_get, arr_rm_cell (hA4.below h3b.out hA4.lt) (by have := HN.out; omega)]
              rfl
            refine app_law (w0 := w4) rfl (.tmp 75) (.tmp 79) rfl v1 xs rfl h1.out h2.out (some ⟨w2.heap.size, xs.length, none⟩) 16 _ 16 (by rw [rm_len]) rfl hz5 (by simp [rm]) (by rw [rm_len]; omega) ?_
            rintro v2 w6 h4 h5 h6 -
            replace h4 := Lib.hid h4
            replace h5 := Lib.hid h5
            replace h6 := Lib.hid h6
            go_wp2_with fail
            refine Cl.way_on ⟨h6.out.os, h6.out.tape, h6.out.output, h6.out.size, fun b _ hb => h6.out.block b (Nat.lt_of_lt_of_le hb hk4.size)⟩ ?_
            iterate 2 (refine Cl.way_r rfl ?_; go_big_quiet_step (fail); refine wpQuiet_nil ?_)
            refine Cl.way_end ?_
            obtain ⟨B, c6, hv6, hc6, hs6⟩ := h4.out.sl
            subst hv6
            replace hc6 := Lib.hid hc6
            replace hs6 := Lib.hid hs6
            have hEl := enc_len xs
            have hbw6 := Lib.hid ((hb2.out.trans (hbw4.mono hb2.out.size)).trans (h5.out.mono (Nat.le_trans hb2.out.size hbw4.size)))
            clear hk4 hA4 hz5 hst
            go_wp2_with fail
            go_ret2
            rw [e1.out, e2.out]
            exact ⟨B, c6, rfl, hc6.out, hs6.out, hbw6.out⟩
end Go.Proofs.YtjhoecfhmndcgaaGreat
namespace Go.Proofs.YtjhoecfhmndcgaaGreat
open Go.RowKit Go.Gf
attribute [local go_sem ↓] Cl.quiet_since

/-- what a decoder is to answer: a word, how many places, an error's number -/
inductive Dec (xs : List Nat) : List Nat → Nat → Nat → Prop where
  | size (h : xs.length < 17 ∨ 1023 < xs.length) : Dec xs [] 0 3
  | arg (h1 : ¬ (xs.length < 17 ∨ 1023 < xs.length)) (x : Nat) (h2 : x ∈ xs) (h3 : 1024 ≤ x) : Dec xs [] 0 1
  | ok (h1 : ¬ (xs.length < 17 ∨ 1023 < xs.length)) (h2 : ∀ x ∈ xs, x < 1024) (ys : List Nat) (h3 : Near xs ys) : Dec xs ys (dl ys xs) 0
  | none (h1 : ¬ (xs.length < 17 ∨ 1023 < xs.length)) (h2 : ∀ x ∈ xs, x < 1024) (h3 : ∀ c, ¬ Near xs c) : Dec xs [] 0 4
def lenV : Value → Nat
  | .slice _ n _ => n
  | _ => 0
/-- all blocks but g are as they were; block g begins with what f says -/
def DecL (w9 : World) (g n : Nat) (f : Nat → Nat) (wr : World) : Prop := Cl.Keeps (fun b => b ≠ g) w9 wr ∧ Pre wr g n f
def fx (v b xs : List Nat) (k j : Nat) : Nat := if j < k then fixd v b (slope v) xs xs.length j else at_ xs j
theorem Drawn.keeps {K : Nat → Prop} {w w' : World} (h : Drawn w w') : Cl.Keeps K w w' := by
  obtain ⟨n, rfl⟩ := h
  exact ⟨rfl, rfl, rfl, Nat.le_refl _, fun _ _ _ => rfl⟩
section
variable {w0 w9 wr w' : World} {g n lo : Nat} {f f' : Nat → Nat} {A : Option Addr} {xs : List Nat}
theorem DecL.start (h : Pre w9 g n f) : DecL w9 g n f w9 := ⟨Cl.Keeps.refl _ _, h⟩
theorem DecL.congr (h : DecL w9 g n f wr) (e : ∀ j, j < n → f j = f' j) : DecL w9 g n f' wr := ⟨h.1, h.2.congr e⟩
theorem DecL.keeps (h : DecL w9 g n f wr) (hk : Cl.Keeps (fun _ => True) wr w') : DecL w9 g n f w' :=
  ⟨h.1.trans ⟨hk.os, hk.tape, hk.output, hk.size, fun b hb _ => hk.block b hb trivial⟩, h.2.keep (hk.block g h.2.lt trivial)⟩
theorem DecL.drawn (h : DecL w9 g n f wr) (hd : Drawn wr w') : DecL w9 g n f w' := h.keeps hd.keeps
theorem DecL.word {B : Nat} (h : DecL w9 g n f wr) (hs : Sl w9 B A xs) (hB : B ≤ g) (hB2 : B ≤ w9.heap.size) : Sl wr wr.heap.size A xs :=
  Sl.more (hs.keep fun p hp => World.cell?_of_block (w := w9) (h.1.block p.block (by omega) (by omega))) (Nat.le_trans hB2 h.1.size)
theorem DecL.slf (h : DecL w9 g n f wr) (hs : SlF w9 lo A xs) (hg : g < lo) : Sl wr wr.heap.size A xs := by
  rcases hs.2 with e | ⟨a, e, hl⟩
  · rw [e]; exact Sl.nil _ _ _
  · refine ⟨hs.1.1, ?_⟩
    rcases hs.1.2 with e0 | ⟨a', e', hb, hc⟩
    · exact Or.inl e0
    · obtain rfl : a = a' := by rw [e] at e'; injection e'
      refine Or.inr ⟨a, e, Nat.lt_of_lt_of_le hb h.1.size, fun i hi => ?_⟩
      rw [← hc i hi]
      exact World.cell?_of_block (w := w9) (by rw [add_block]; exact h.1.block a.block hb (by omega))
theorem DecL.below (h : DecL w9 g n f wr) (hb : Below w0.heap.size w0 w9) (hg : w0.heap.size ≤ g) : Below w0.heap.size w0 wr :=
  hb.trans ⟨h.1.os, h.1.tape, h.1.output, h.1.size, fun k hk => h.1.block k (Nat.lt_of_lt_of_le hk hb.size) (by omega)⟩
theorem DecL.set_ (h : DecL w9 g n f wr) (i x : Nat) : DecL w9 g n (fun j => if j = i then x else f j) (wr.setCell ⟨g, i, none⟩ (.int .u16 (x : Int))) :=
  ⟨⟨h.1.os, h.1.tape, h.1.output, by simpa [World.setCell] using h.1.size, fun b hb hk => (Below.heap_setCell _ _ _ b hk).trans (h.1.block b hb hk)⟩, h.2.set_ i x⟩
end
theorem fixd_lt {v b d w : List Nat} (hw : ∀ y ∈ w, y < 1024) (n i : Nat) : fixd v b d w n i < 1024 := by
  unfold fixd
  refine xor_lt (at_lt hw (by decide)) ?_
  split
  · exact gm_lt _ (ev_lt _ _)
  · decide
theorem Sl.fresh {w : World} {lo : Nat} {A : Option Addr} {xs : List Nat} (h : Sl w w.heap.size A xs) (hl : ∀ a, A = some a → lo ≤ a.block) : SlF w lo A xs := by
  refine ⟨h, ?_⟩
  rcases h.2 with e | ⟨a, e, _, _⟩
  · exact Or.inl e
  · exact Or.inr ⟨a, e, hl a e⟩

end Go.Proofs.YtjhoecfhmndcgaaGreat
